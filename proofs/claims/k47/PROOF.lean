import PyProof.Rows.All
import Wide.All
import OpenK.AllK
import Wide.FinOn
import HandS.ForExc
import HandS.IsInst
import HandS.Wide
import KE.KExcIs
import HandS.ExcInit
import HandS.Defaults
import HandS.ExcIs
import HandS.ExcField
import KE.GoesEnumKw
import KE.KDictPairs
import HandS.ForMost
import HandS.Walk
import HandS.SortInts
import HandS.Dict
import HandS.More
import KE.KStateDown
import Wide.Once
import HandS.Comp
import HandS.Evl
import HandS.Head0
import HandS.Head1
import HandS.Head2
import HandS.HeadEnd
import HandS.HeadHook1
import HandS.HeadHook2
import HandS.HeadHook3
import HandS.HeadHook4
import HandS.SetKeys
import HandS.DictComp
import HandS.RaiseMore
import HandS.Iter
import HandS.Style
import HandS.Text
import HandS.Zip
import PySem.Challenge.RW_latepresses_k47_whole_learned_by_tables
set_option Elab.async false
set_option linter.all false
set_option maxRecDepth 100000
set_option maxHeartbeats 4000000
/-! Frames, draws, data without lists. -/
namespace KF
open PySem PySem.Spec PyProof.Rows L2
/-! ### data stand while tuples stand -/
def TF (H H' : Hp) : Prop := ∀ b xs, Rd H b (.tup xs) → Rd H' b (.tup xs)
theorem TF.sq {K : PySem.W.Frag} {H H' : Hp} (e : TF H H') {a : Addr} {xs : List V} (h : SqT K H a xs) : SqT K H' a xs := by
  rcases h with h | h
  · exact .inl (e _ _ h)
  · exact .inr h
theorem TF.refl (H : Hp) : TF H H := fun _ _ h => h
theorem TF.trans {H H1 H2 : Hp} (a : TF H H1) (b : TF H1 H2) : TF H H2 := fun c xs h => b c xs (a c xs h)
theorem TF.of_new {H : Hp} {p : Addr} {o : HO} (h : H p = none) : TF H (upd H p o) := fun c xs z => by
  rcases z with z | ⟨u, z⟩
  · exact .inl (by rw [upd_ne (ne_of_none z h)]; exact z)
  · exact .inr ⟨u, by rw [upd_ne (ne_of_none z h)]; exact z⟩
/-- but for one list all stands -/
def Frm (d : Addr) (H H' : Hp) : Prop := ∀ b o, b ≠ d → H b = some o → H' b = some o
theorem Frm.refl (d : Addr) (H : Hp) : Frm d H H := fun _ _ _ h => h
theorem Frm.trans {d : Addr} {H H1 H2 : Hp} (a : Frm d H H1) (b : Frm d H1 H2) : Frm d H H2 := fun c o n h => b c o n (a c o n h)
theorem Frm.of_same {d : Addr} {H H' : Hp} (e : Same H H') : Frm d H H' := fun b o _ h => e b o h
theorem Frm.of_new {d : Addr} {H : Hp} {p : Addr} {o : HO} (h : H p = none) : Frm d H (upd H p o) := fun b u _ z => by
  rw [upd_ne (ne_of_none z h)]
  exact z
theorem Frm.of_upd {d : Addr} {H : Hp} {o : HO} : Frm d H (upd H d o) := fun b u n z => by
  rw [upd_ne n]
  exact z
theorem Frm.tf {d : Addr} {H H' : Hp} {xs : List V} (e : Frm d H H') (h : H d = some (.lst xs)) : TF H H' := fun c ys z => by
  rcases z with z | ⟨u, z⟩
  · exact .inl (e c _ (fun q => by rw [q, h] at z; cases z) z)
  · exact .inr ⟨u, e c _ (fun q => by rw [q, h] at z; cases z) z⟩
theorem new_same {H : Hp} {p : Addr} {o : HO} (h : H p = none) : Same H (upd H p o) := fun b u z => by
  rw [upd_ne (ne_of_none z h)]
  exact z
theorem same_tf {H H' : Hp} (s : Same H H') : TF H H' := fun c zs z => by
  rcases z with z | ⟨u, z⟩
  · exact .inl (s _ _ z)
  · exact .inr ⟨u, s _ _ z⟩
theorem frm_same {H0 H1 H2 : Hp} {d : Addr} (s : Same H0 H1) (n : H0 d = none) (f : Frm d H1 H2) : Same H0 H2 := fun b o z => f b o (ne_of_none z n) (s b o z)
/-- a row of draws at d, good for n more -/
def Deck (H : Hp) (d : Addr) (n : Nat) : Prop := ∃ r m i c : Int, H d = some (.lst [.int r, .int m, .int i, .int c]) ∧ 0 ≤ m ∧ m < 2305843009213693951 ∧ 0 ≤ i ∧ i ≤ 1000 ∧ 0 ≤ c ∧ c + n ≤ 1000000000000
theorem Deck.le {H : Hp} {d : Addr} {n k : Nat} (h : Deck H d n) (hk : k ≤ n) : Deck H d k := by
  obtain ⟨r, m, i, c, h0, h1, h2, h3, h4, h5, h6⟩ := h
  exact ⟨r, m, i, c, h0, h1, h2, h3, h4, h5, by omega⟩
theorem Deck.lst {H : Hp} {d : Addr} {n : Nat} (h : Deck H d n) : ∃ xs, H d = some (.lst xs) := by
  obtain ⟨r, m, i, c, h0, _⟩ := h
  exact ⟨_, h0⟩
theorem Deck.keep {H H' : Hp} {d : Addr} {n : Nat} (h : Deck H d n) (e : H' d = H d) : Deck H' d n := by
  obtain ⟨r, m, i, c, h0, h1⟩ := h
  exact ⟨r, m, i, c, by rw [e]; exact h0, h1⟩
theorem Deck.same {H H' : Hp} {d : Addr} {n : Nat} (h : Deck H d n) (e : Same H H') : Deck H' d n := by
  obtain ⟨r, m, i, c, h0, h1⟩ := h
  exact ⟨r, m, i, c, e _ _ h0, h1⟩
theorem small_ab {i : Int} {n : Nat} (h0 : 0 ≤ i) (h1 : i < 2 ^ n) : i.natAbs < 2 ^ n := by
  have e : ((i.natAbs : Nat) : Int) = i := Int.natAbs_of_nonneg h0
  have h2 : ((i.natAbs : Nat) : Int) < ((2 ^ n : Nat) : Int) := by
    rw [e, Int.natCast_pow]
    exact h1
  exact Int.ofNat_lt.mp h2
theorem pow63 : (2 : Int) ^ 63 = 9223372036854775808 := by decide
theorem pow20 : (2 : Int) ^ 20 = 1048576 := by decide
theorem pow40 : (2 : Int) ^ 40 = 1099511627776 := by decide
theorem pow122 : (2 : Nat) ^ 122 = 5316911983139663491615228241121378304 := by decide
theorem pow120 : (2 : Nat) ^ (40 + 40 + 40) = 1329227995784915872903807060280344576 := by decide
theorem ne_int {i j : Int} (h : ¬ (V.int i = V.int j)) : i ≠ j := fun e => h (by rw [e])
theorem ty_tup {K : PySem.W.Frag} {H : Hp} {a : Addr} {xs : List V} (h : SqT K H a xs) : TyX K H (.ref a) (.type "tuple") := by
  rcases h with (h | ⟨o, h⟩) | ⟨o, _, _, h, hc, _⟩
  · exact .base (.tup h)
  · exact .fTuple h
  · exact .kTuple h hc
section
variable {K : PySem.W.Frag} {H : Hp}
theorem dpa_len : ∀ {vs : List V} {ds : List PyData}, DpAll K H vs ds → vs.length = ds.length
  | [], _, h => by cases h; rfl
  | v :: vs, _, h => by
    cases h with
    | cons _ b => rw [List.length_cons, List.length_cons, dpa_len b]
theorem dpa_get : ∀ {vs : List V} {ds : List PyData} {i : Nat} {e : PyData}, DpAll K H vs ds → ds[i]? = some e → ∃ v, vs[i]? = some v ∧ Dp K H v e
  | [], _, i, e, h, he => by cases h; cases he
  | v :: vs, _, 0, e, h, he => by
    cases h with
    | cons a _ => cases he; exact ⟨v, rfl, a⟩
  | v :: vs, _, i + 1, e, h, he => by
    cases h with
    | cons _ b => exact dpa_get (vs := vs) (i := i) b he
end
/-! ### x is True, x is not True, x any value -/
def rIsT (c : Bool) : R2 := fun x y H Q => y = .bl c ∧ Q (.bl (decide (x = .bl c))) H
theorem plain_bl (c : Bool) {x : V} {u : Value} (r : RelV x u) : plainIs u (.bool c) = true := by
  cases x <;> first | (cases r; rfl) | (obtain ⟨t, rfl⟩ := r; rfl)
section
variable {X : Cx}
theorem op_isT (c : Bool) : OpR X (compareOp .Is) (rIsT c) := by
  intro pins s σ H x y v u Q I rx ry h
  obtain ⟨rfl, q⟩ := h
  cases (show u = Value.bool c from ry)
  by_cases e : x = .bl c
  · subst e
    cases (show v = Value.bool c from rx)
    exact wpAny_is_self (plain_bl c rx) ⟨.bl true, H, I, rfl, by simpa using q⟩
  · refine wpAny_is_other (plain_bl c rx) (fun z => e ?_) ⟨.bl false, H, I, rfl, by simpa [e] using q⟩
    subst z
    exact RelV.inj rx rfl
theorem op_notT (c : Bool) : OpR X (compareOp .IsNot) (fun x y H Q => y = .bl c ∧ Q (.bl (!decide (x = .bl c))) H) := by
  intro pins s σ H x y v u Q I rx ry h
  obtain ⟨rfl, q⟩ := h
  cases (show u = Value.bool c from ry)
  by_cases e : x = .bl c
  · subst e
    cases (show v = Value.bool c from rx)
    exact wpAny_isNot_self (plain_bl c rx) ⟨.bl false, H, I, rfl, by simpa using q⟩
  · refine wpAny_isNot_other (plain_bl c rx) (fun z => e ?_) ⟨.bl true, H, I, rfl, by simpa [e] using q⟩
    subst z
    exact RelV.inj rx rfl
end

/-! ### data without lists and dicts -/
mutual
def NL : PyData → Prop
  | .none => True
  | .bool _ => True
  | .int _ => True
  | .str _ => True
  | .list _ => False
  | .tuple ds => NLs ds
  | .dict _ => False
def NLs : List PyData → Prop
  | [] => True
  | d :: ds => NL d ∧ NLs ds
end
section
variable {K : PySem.W.Frag} {H H' : Hp}
mutual
theorem dp_nl (e : TF H H') : ∀ (d : PyData) (v : V), NL d → Dp K H v d → Dp K H' v d
  | .none, _, _, h => by cases h; exact .non
  | .bool _, _, _, h => by cases h; exact .bl _
  | .int _, _, _, h => by cases h; exact .int _
  | .str _, _, _, h => by cases h; exact .str _
  | .list _, _, r, _ => r.elim
  | .dict _, _, r, _ => r.elim
  | .tuple ds, _, r, h => by
    cases h with
    | tup a b => exact .tup (e.sq a) (dpa_nl e ds _ r b)
theorem dpa_nl (e : TF H H') : ∀ (ds : List PyData) (vs : List V), NLs ds → DpAll K H vs ds → DpAll K H' vs ds
  | [], _, _, h => by cases h; exact .nil
  | d :: ds, _, r, h => by
    cases h with
    | cons a b => exact .cons (dp_nl e d _ r.1 a) (dpa_nl e ds _ r.2 b)
end
end
end KF
set_option maxRecDepth 100000
set_option maxHeartbeats 4000000
/-! A caught error that is kept under a name behind its try. -/
namespace KD
open PySem PySem.Spec PyProof.Rows L2
/-- a caught error that is kept: its class, its dict -/
def CxO (cl : Value) (dx : Option Addr) (ae : Addr) : HO := .ext fun hp => ∃ (ob : Obj) (fv : Array Value), hp.get? ae = some ob ∧ Zc cl dx ob ∧ ob.data = .fields fv
theorem cxo_ok {P : Program} {w : World} {G : Hp} {hp : Heap} {ae : Addr} {cl : Value} {dx : Option Addr} {ob : Obj} {fv : Array Value} (there : hp.get? ae = some ob) (zz : Zc cl dx ob) (dd : ob.data = .fields fv) : ObjOk P w G hp ae (CxO cl dx ae) :=
  ⟨⟨ob, fv, there, zz, dd⟩, ⟨ob, there⟩, fun _ _ ⟨o1, f1, y1, y2⟩ kp => ⟨o1, f1, kp o1 y1, y2⟩⟩
section
variable {X : Cx} {pins : List (Addr × Obj)} {σ : L2.St} {G : Hp} {s : Shared}
theorem track {ae : Addr} {cl : Value} {dx : Option Addr} {ob : Obj} {fv : Array Value} (J : Inv X pins σ G s) (there : s.heap.get? ae = some ob) (zz : Zc cl dx ob) (dd : ob.data = .fields fv) (na : G ae = none)
    (n0 : X.s_0.heap.get? ae = none) (nL : ae ≠ X.env.locals) (np : ∀ p ∈ X.pn ++ pins, p.1 ≠ ae) : Inv X pins σ (upd G ae (CxO cl dx ae)) s := by
  have ne0 : ∀ b o, X.s_0.heap.get? b = some o → b ≠ ae := fun b o eb z => by
    rw [z, n0] at eb
    cases eb
  refine ⟨J.ok, J.os, J.bare, ⟨J.base.keep, J.base.slot, fun b o eb n hx => ?_, J.base.there, fun b xs t => ?_, fun b o u t => ?_, fun b ps t => ?_⟩, J.loc, J.cell, ?_, fun x c ec => ?_, fun p hp => ?_, fun b u eb => ?_, J.len⟩
  · rw [upd_ne (ne0 b o eb)]
    exact J.base.free b o eb n hx
  · have y := J.base.tups b xs t
    rw [upd_ne (ne_of_none y na)]
    exact y
  · have y := J.base.frzs b o u t
    rw [upd_ne (ne_of_none y na)]
    exact y
  · obtain ⟨m, y⟩ := J.base.tbls b ps t
    exact ⟨m, by rw [upd_ne (ne_of_none y na)]; exact y⟩
  · rw [upd_ne (Ne.symm nL)]
    exact J.free
  · have nc : c ≠ ae := fun z => by
      obtain ⟨v, o, ho, hd⟩ := J.cell x c ec
      rw [z, there] at ho
      cases ho
      rw [dd] at hd
      cases hd
    rw [upd_ne nc]
    exact J.freeC x c ec
  · obtain ⟨q1, q2, q3, q4, q5⟩ := J.pin p hp
    exact ⟨q1, by rw [upd_ne (np p hp)]; exact q2, q3, q4, q5⟩
  · by_cases hb : b = ae
    · subst hb
      rw [upd_same] at eb
      cases eb
      exact cxo_ok there zz dd
    · rw [upd_ne hb] at eb
      exact (J.hok b u eb).stay (fun _ _ _ q => q) (fun c q => by rw [upd_ne (ne_of_none q na)]; exact q) fun c xs q => by rw [upd_ne (ne_of_none q na)]; exact q
end
/-- the clause's wish, the error kept behind it -/
def wKeep (K : PySem.W.Frag) (c : Value) (i : Nat) (ts : Addr → Value → Option Addr → TS) (Wo : WX) (D : Ends) : WX := fun cl dx σ G =>
  ∃ b, PySem.W.exmOne K cl c = some b ∧ (b = true → ∀ ae, G ae = none → ts ae cl dx { nx := fun σ' G' => D.nx (σ'.set i none) (upd G' ae (CxO cl dx ae)), rt := fun _ _ => False, bk := fun _ _ => False, ct := fun _ _ => False } (σ.set i (some (.ref ae))) G) ∧ (b = false → Wo cl dx σ G)
section
variable {X : Cx} {x n : Str} {c : Value} {i : Nat} {body su : List Stmt} {b1 : Stmt} {np pa pb : Pos} {tb : WX → TS} {ts : Addr → Value → Option Addr → TS} {Wo : WX}
theorem ps_try_keep (stk : X.stack = X.env :: X.outer) (fr : X.env.frame = some X.env.locals) (hex : X.ex = []) (nd : X.N.Nodup) (ni : X.N[i]? = some n) (lo : X.env.kindOf n = some .local) (nm : Names X x c) (tk : Takes X Wo)
    (hb : ∀ (W : WX) (pn : List (Addr × Obj)) (xe : Value → Shared → Prop), Takes (X.tr pn xe) W → PassesOwn (model X.prog X.w) X.A X.env xe → PSs (X.tr pn xe) body (tb W))
    (hsu : ∀ (ae : Addr) (ob : Obj) (cl : Value) (dx : Option Addr) (pn : List (Addr × Obj)), Zc cl dx ob → (∃ vs, ob.data = .fields vs) → PSs (X.suite ae ((ae, ob) :: pn)) (b1 :: su) (ts ae cl dx)) :
    PS X (.Try body [.ExceptHandler (some (.Name x np)) (some n) (b1 :: su) pb] [] [] pa) (fun D σ G => tb (wKeep X.K c i ts Wo D) D σ G) := by
  refine ⟨fun pins s σ G D I h => ?_⟩
  have ok := I.ok
  have frs2 : X.A.frames = some (X.env :: X.outer) := by rw [ok.frames, stk]
  refine wpAny_Try_except ?_
  have start := (hb (wKeep X.K c i ts Wo D) (X.pn ++ pins) (fun e s1 => wpAny (model X.prog X.w) X.A (noteFrame e X.env) (fun _ s2 => wpAny (model X.prog X.w) X.A (setFlight e none) (fun _ s3 =>
    wpAny (model X.prog X.w) X.A (handleBy e X.env [.ExceptHandler (some (.Name x np)) (some n) (b1 :: su) pb]) (SP X pins D) X.xe s3) X.xe s2) X.xe s1) (fun u s' xx => ?caught) PassesOwn.looking).run [] s σ G D (I.toTry _) h
  · refine wpAny_mono start (fun f t1 hsp => ?_) (fun e t1 he => he)
    cases f with
    | next =>
      obtain ⟨σ1, G1, J1, q⟩ := hsp
      exact wpAny_execs_nil ⟨σ1, G1, J1.ofTry ok, q⟩
    | brk =>
      obtain ⟨σ1, G1, J1, q⟩ := hsp
      exact ⟨σ1, G1, J1.ofTry ok, q⟩
    | cont =>
      obtain ⟨σ1, G1, J1, q⟩ := hsp
      exact ⟨σ1, G1, J1.ofTry ok, q⟩
    | ret u =>
      obtain ⟨v, σ1, G1, J1, rr, q⟩ := hsp
      exact ⟨v, σ1, G1, J1.ofTry ok, rr, q⟩
  case caught =>
    obtain ⟨ae, Bs, sM, pins1, σ1, G1, cl, dx, rfl, J0, nb, up, sky0, na, os, ag, b, hb1, hyes, hno⟩ := xx
    have J : Inv X pins σ1 G1 sM := J0.ofTry ok
    have sky1 : Sky Bs (X.env :: X.outer) ae (Zc cl dx) X.env.locals s'.heap := by rw [← stk]; exact sky0
    show wpAny (model X.prog X.w) X.A (noteFrame (.ref ae) X.env) _ _ _
    refine Sky.land Zc.steady frs2 fr sky1 fun h3 fl3 up3 => ?_
    have J3 : Inv X pins σ1 G1 { s' with heap := h3 } := J.landed nb fl3.1 (up.trans up3) os ag
    obtain ⟨o3, v3, at3, z3, d3⟩ := fl3.there
    have apart : ∀ {hp : Heap} {o : Obj} {vs : Array Value}, hp.FunFrames Bs (X.env :: X.outer) → hp.get? ae = some o → o.data = .fields vs → ae ∉ frs (X.env :: X.outer) := fun {hp o vs} ff e dd hm => by
      obtain ⟨_, o', e', hnf⟩ := ff.mem hm
      rw [e] at e'
      cases e'
      exact hnf _ dd
    have nfr := apart fl3.2.2.1 at3 d3
    have inFr : ∀ p : Addr, p ∈ frs (X.env :: X.outer) → p = X.env.locals ∨ p ∈ X.fs := fun p hm => by
      obtain ⟨ev, hev, q⟩ := List.mem_filterMap.mp hm
      rcases List.mem_cons.mp hev with z | z
      · rw [z, fr] at q
        exact .inl (Option.some.inj q).symm
      · exact .inr (List.mem_filterMap.mpr ⟨ev, z, q⟩)
    have nL : ae ≠ X.env.locals := fun z => nfr (List.mem_filterMap.mpr ⟨X.env, List.mem_cons_self, by rw [fr, z]⟩)
    have nF : ae ∉ X.fs := fun hm => by
      obtain ⟨ev, hev, q⟩ := List.mem_filterMap.mp hm
      exact nfr (List.mem_filterMap.mpr ⟨ev, List.mem_cons_of_mem _ hev, q⟩)
    have notB : Bs.get? ae = none := fl3.2.1
    have n0 : X.s_0.heap.get? ae = none := by
      cases e : X.s_0.heap.get? ae with
      | none => rfl
      | some o =>
        obtain ⟨o2, e2⟩ := J.base.there ae o e (by rw [hex]; exact fun z => nomatch z)
        have e3 := nb ae o2 e2 (by show ae ∉ frs X.stack; rw [stk]; exact nfr)
        rw [notB] at e3
        cases e3
    have npin : ∀ p ∈ X.pn ++ pins, p.1 ≠ ae := fun p hp z => by
      obtain ⟨q1, q2, q3, q4, q5⟩ := J.pin p hp
      have e3 := nb p.1 p.2 q1 (by
        show p.1 ∉ frs X.stack
        rw [stk]
        exact fun hm => (inFr p.1 hm).elim q3 q4)
      rw [z, notB] at e3
      cases e3
    have S3 := J3.suite at3 d3 na nL nF
    refine wpAny_handleBy_cons (codeAny_handlers_test ?_) (fun z => by cases z)
    have LT : PySem.W.Looks (model X.prog X.w) h3 (typeOf (.ref ae)) cl := fun A Q E s k q => wpAny_typeOf_ref (k _ _ at3) (by rw [z3.1]; exact q)
    have LK := PySem.W.exm_one (M := model X.prog X.w) J3.kIn LT hb1
    have test : ∀ {Q : Value → Shared → Prop} {E : Value → Shared → Prop}, Q c { s' with heap := h3 } → wpAny (model X.prog X.w) (X.A.mark (some (.ref ae))) (eval (.Name x np) X.env) Q E { s' with heap := h3 } := fun {Q E} q => by
      obtain ⟨g1, g2, g3 | ⟨g3, g4, g5⟩⟩ := nm
      · exact ld_glob (X := X.suite ae ((ae, o3) :: (X.pn ++ pins))) S3 g1 g3 q g2
      · exact ld_blt (X := X.suite ae ((ae, o3) :: (X.pn ++ pins))) S3 g1 g3 g4 q g5 g2
    refine test (LK.here ?_)
    cases b with
    | true =>
      refine codeAny_handlers_suite_as (HandSPX.lands_againZ fl3 fun h4 fl4 up4 => ?_)
      have J4 : Inv X pins σ1 G1 { s' with heap := h4 } := J.landed nb fl4.1 ((up.trans up3).trans up4) os ag
      obtain ⟨o4, v4, at4, z4, d4⟩ := fl4.there
      have S4 := J4.suite at4 d4 na nL nF
      refine store_ok (X := X.suite ae ((ae, o4) :: (X.pn ++ pins))) (v := .ref ae) S4 nd ni (.inl lo) rfl (fun s5 S5 => ?_) (.inr lo)
      refine wpAny_mono ((hsu ae o4 cl dx (X.pn ++ pins) z4 ⟨_, d4⟩).run [] s5 _ G1 _ S5 (hyes rfl ae na)) (fun f s6 hsp => ?_) (fun _ _ z => False.elim z)
      cases f with
      | next =>
        obtain ⟨σ6, G6, S6, q6⟩ := hsp
        obtain ⟨p1, p2, p3, p4, p5⟩ := S6.pin (ae, o4) (List.mem_append_left _ List.mem_cons_self)
        have T6 := track (S6.unsuite ok) p1 z4 d4 p2 n0 nL npin
        exact gone_ok T6 nd ni lo fun s7 J7 => ⟨_, _, J7, q6⟩
      | brk =>
        obtain ⟨σ6, G6, S6, q6⟩ := hsp
        exact q6.elim
      | cont =>
        obtain ⟨σ6, G6, S6, q6⟩ := hsp
        exact q6.elim
      | ret u =>
        obtain ⟨v6, σ6, G6, S6, r6, q6⟩ := hsp
        exact q6.elim
    | false =>
      show wpAny _ X.A (handleBy (.ref ae) X.env []) _ _ _
      refine wpAny_handleBy_nil ?_
      obtain ⟨k1, k2, k3, o5, v5, T5, oT, ts', he5, hz5, hd5, h5, hr5⟩ := id fl3
      unfold PySem.passOn
      refine wpAny_bind (wpAny_field he5 hd5 h5 ?_)
      rw [if_neg (show ¬ ((Value.ref T5 == Value.none) = true) from by simp)]
      have fin2 : wpAny (model X.prog X.w) X.A (setFlight (.ref ae) X.env.frame) (fun _ s4 => wpAny (model X.prog X.w) X.A (throw (.ref ae) : Sem Flow) (SP X pins D) X.xe s4) X.xe { s' with heap := h3 } := by
        rw [fr]
        refine HandSPX.setFlight_upZ fl3 fun h4 hh4 up4 => wpAny_throw (tk _ _ ?_)
        exact ⟨ae, Bs, sM, pins, σ1, G1, cl, dx, rfl, J, nb, (up.trans up3).trans up4, .inr (.inr (by rw [stk]; exact hh4)), na, os, ag, hno rfl⟩
      first
        | exact wpAny_bind (wpAny_pure (wpAny_bind fin2))
        | exact wpAny_bind fin2
end
/-! ### what is asked of it -/
def rIsC (K : PySem.W.Frag) : List V → Hp → VK → Prop := fun xs G Q => ∃ (D ae dx : Addr) (c : V) (cv : Value) (b : Bool) (fs : List (Str × V)), xs = [.ref ae, c] ∧ ExcC K D ∧ G ae = some (CxO (.ref D) (some dx) ae) ∧ G dx = some (.xd fs) ∧ ClsV c cv ∧
  PySem.W.kitOne K (.ref D) cv = some b ∧ Q (.bl b) G
def rIsCT (K : PySem.W.Frag) : List V → Hp → VK → Prop := fun xs G Q => ∃ (D ae dx tp : Addr) (cs : List V) (us : List Value) (b : Bool) (fs : List (Str × V)), xs = [.ref ae, .ref tp] ∧ ExcC K D ∧ G ae = some (CxO (.ref D) (some dx) ae) ∧ G dx = some (.xd fs) ∧ G tp = some (.tup cs) ∧
  Paired ClsV cs us ∧ PySem.W.kitAny K (.ref D) us = some b ∧ Q (.bl b) G
section
variable {X : Cx} {pins : List (Addr × Obj)} {σ : L2.St} {G : Hp} {s : Shared}
theorem inst_kept {D ae dx : Addr} {fs : List (Str × V)} (J : Inv X pins σ G s) (ha : G ae = some (CxO (.ref D) (some dx) ae)) (hd : G dx = some (.xd fs)) :
    ∃ ob od, PySem.W.InstAt s.heap ae ob D (some od) ∧ ∀ n, ∃ m, PySem.W.lookIn n od = some m ∧ RelO (fs.lookup n) m := by
  obtain ⟨⟨ob, fv, g1, g2, g3⟩, _⟩ := J.hok ae _ ha
  have hx : ObjOk X.prog X.w G s.heap dx (.xd fs) := J.hok dx _ hd
  obtain ⟨mA, hns, hr⟩ := hx
  obtain ⟨od, hod, look⟩ := lookIn_ns hns
  exact ⟨ob, od, ⟨g1, g2.1, by unfold PySem.W.notCls; rw [g3] <;> rfl, by rw [g2.2]; exact hod⟩, fun n => ⟨mA n, look n, hr n⟩⟩
theorem call_isC : CallR X (.builtin "isinstance") (rIsC X.K) := by
  intro pins s σ G xs us Q I r h
  obtain ⟨D, ae, dx, c, cv, b, fs, rfl, C, ha, hd, hcv, e, q⟩ := h
  obtain ⟨v1, v2, rfl, q1, q2⟩ := vals2 r
  have e2 := hcv.eq q2
  subst e2
  cases (show v1 = Value.ref ae from q1)
  obtain ⟨ob, od, J, _⟩ := inst_kept I ha hd
  obtain ⟨cd, hcd, _⟩ := PySem.W.any_some C.hd
  exact PySem.W.kia_one (PySem.W.kitx_exc (by rw [hcd]; rfl) C.hg C.hk C.hs C.ha C.hn C.ht C.hm) I.kIn J e (fun z => nomatch z) fun tk => ⟨.bl b, G, I.tok tk, rfl, q⟩
theorem call_isCT : CallR X (.builtin "isinstance") (rIsCT X.K) := by
  intro pins s σ G xs us Q I r h
  obtain ⟨D, ae, dx, tp, cs, ws, b, fs, rfl, C, ha, hd, hT, k, e, q⟩ := h
  obtain ⟨v1, v2, rfl, q1, q2⟩ := vals2 r
  cases (show v2 = Value.ref tp from q2)
  cases (show v1 = Value.ref ae from q1)
  obtain ⟨ob, od, J, _⟩ := inst_kept I ha hd
  obtain ⟨cd, hcd, _⟩ := PySem.W.any_some C.hd
  obtain ⟨_, its, rv, o, g1, g2, n, g3⟩ := (show ObjOk X.prog X.w G s.heap tp (.tup cs) from I.hok tp _ hT)
  have e3 := ClsV.all k rv
  subst e3
  obtain ⟨oc, od2, dt, sl⟩ := o
  simp only at g2 g3
  subst g2 g3
  exact PySem.W.kia_tup (PySem.W.kitx_exc (by rw [hcd]; rfl) C.hg C.hk C.hs C.ha C.hn C.ht C.hm) I.kIn J g1 e (fun z => nomatch z) fun tk => ⟨.bl b, G, I.tok tk, rfl, q⟩
/-- e.f, e the kept error -/
def tXk (K : PySem.W.Frag) (f : Str) (te : TE) : TE := fun σ G Q => te σ G fun y G1 => ∃ (ae C dx : Addr) (fs : List (Str × V)) (v : V), y = .ref ae ∧ G1 ae = some (CxO (.ref C) (some dx) ae) ∧ XfC K C ∧ PySem.W.findIn K (.ref C) f = some none ∧ G1 dx = some (.xd fs) ∧ fs.lookup f = some v ∧ Q v G1
theorem pe_xk {e : Expr} {te : TE} {pos : Pos} {f : Str} (he : PE X e te) (hb : attributeBase e f X.env (eval e X.env) = eval e X.env := by rfl) : PE X (.Attribute e f pos) (tXk X.K f te) := by
  refine ⟨fun pins s σ G Q I h => ?_⟩
  refine attr_of hb (thn (he.run pins s σ G _ I h) fun u s1 hh => ?_)
  obtain ⟨y, G1, I1, rx, ae, C, dx, fs, v, ex, ha, T, hno, hd, l, q⟩ := hh
  subst ex
  obtain rfl : u = Value.ref ae := rx
  obtain ⟨ob, od, J, look⟩ := inst_kept I1 ha hd
  obtain ⟨m, hl, hr⟩ := look f
  obtain ⟨u2, hu, ru⟩ := RelO.some_of (v := v) (o := m) (by rw [← l]; exact hr)
  exact HandSPX.exc_get I1.kIn J T.ga T.gg T.exC (PySem.W.findObj_own T.hdC hno rfl (by rw [hl, hu])) (handed_of ru) ⟨v, G1, I1.tok _, ru, q⟩
end
end KD
set_option maxRecDepth 100000
set_option maxHeartbeats 4000000
/-! enumerate of a tuple, from any number on; sorted of a dict of any size; dict of a tuple of pairs. -/
namespace PySem
open Sem (wp)
set_option maxHeartbeats 1000000 in
theorem kd_meets_enum1 {v : Value} {o : Obj} {Hv : Heap → Prop} (B : Begins v o Hv) :
    Meets (Builtin.«enumerate.__new__» ⟨[.type "enumerate", v], []⟩) (fun _ R s => Hv s.heap ∧
      R (.ok (.ret (.ref (s.heap.push o).objs.size))) { s with heap := (s.heap.push o).push { cls := .type "enumerate", data := .fields #[.none, .bool false, .ref s.heap.objs.size, rawInt 0, .none, .none] } }) :=
  .of_wp fun prog w A R s hh => by
    obtain ⟨hp, g, d, tk, os⟩ := s
    obtain ⟨v1, hh⟩ := hh
    have hsub := sub_enumerate
    have start : ∀ {A' : Around} {E : Value → Shared → Prop} {Q : Value → Shared → Prop}, Q (.ref hp.objs.size) ⟨hp.push o, g, d, tk, os⟩ → wpAny (model prog w) A' (pyIter v) Q E ⟨hp, g, d, tk, os⟩ :=
      fun q => B.iter prog w _ _ ⟨hp, g, d, tk, os⟩ _ v1 q
    wp_walk using start
    refine wpAny_stack_any fun st => wpAny_pure ?_
    split
    · rename_i c _ _ _ _ _
      cases (c == Value.type "enumerate")
      · wp_walk using start
        exact ⟨_, rfl, hh⟩
      · wp_walk using start
        exact ⟨_, rfl, hh⟩
    · wp_walk using start
      exact ⟨_, rfl, hh⟩
section
variable {prog : Program} {w : World} {A : Around} {E : Value → Shared → Prop} {s : Shared}
theorem kd_enum1 {v : Value} {o : Obj} {Hv : Heap → Prop} {Q : Value → Shared → Prop} (B : Begins v o Hv) (v1 : Hv s.heap)
    (hq : ∀ h', IsEnum h' (s.heap.objs.size + 1) s.heap.objs.size 0 .none → h'.get? s.heap.objs.size = some o → h'.objs.size = s.heap.objs.size + 2 →
      (∀ b o, s.heap.get? b = some o → h'.get? b = some o) → Q (.ref (s.heap.objs.size + 1)) { s with heap := h' }) :
    wpAny (model prog w) A (call (.type "enumerate") [v]) Q E s := by
  refine callType_new F.called_enumerate (by decide) (F.typeCall_enumerate_1 _) (F.newCall_enumerate_1 _) (fun ob => F.args_object_init_2 ob _) F.entry_enumerate_new
    (kd_meets_enum1 B) ⟨v1, ?_⟩
  have hz : (s.heap.push o).objs.size = s.heap.objs.size + 1 := Heap.size_push ..
  show _ ∧ _
  rw [hz]
  have he : IsEnum ((s.heap.push o).push { cls := .type "enumerate", data := .fields #[.none, .bool false, .ref s.heap.objs.size, rawInt 0, .none, .none] }) (s.heap.objs.size + 1) s.heap.objs.size 0 .none := by
    have := Heap.get?_push_size (s.heap.push o) (o := { cls := .type "enumerate", data := .fields #[.none, .bool false, .ref s.heap.objs.size, rawInt 0, .none, .none] }) rfl
    rw [hz] at this
    exact this
  exact ⟨⟨_, he, rfl⟩, hq _ he (Heap.get?_push_of_some _ (Heap.get?_push_size _ B.free)) (by rw [Heap.size_push, hz]) fun b o x => Heap.get?_push_of_some _ (Heap.get?_push_of_some _ x)⟩
end
end PySem
namespace KD
open PySem PySem.Spec PyProof.Rows L2
/-- the tuple at a, each item behind its number, from c on, in a new pair -/
def Ity (K : PySem.W.Frag) (a : Addr) (c : Int) : It :=
  ⟨fun i G => ∃ (xs : List V) (x : V), SqT K G a xs ∧ xs[i]? = some x, fun i G v G' => ∃ t x, v = .ref t ∧ G t = none ∧ G' = upd G t (.tup [.int (c + (i : Nat)), x]) ∧ ∀ xs, SqT K G a xs → xs[i]? = some x, fun i G => ∃ xs : List V, SqT K G a xs ∧ xs.length ≤ i⟩
theorem turn_ity {P : Program} {w : World} {K : PySem.W.Frag} {elts : List Expr} {kk : Nat} {tpos : Pos} (a e it : Addr) (c : Int) :
    Turn P w K (.Tuple elts kk tpos) (Ity K a c) [e, it] e (fun i h => (∃ old, IsEnum h e it (c + ((i : Nat) : Int)) old) ∧ h.IsTupleIter it a i ∧ e ≠ it) where
  mem := by simp
  obj := fun i h st b hb => by
    obtain ⟨⟨old, he⟩, ⟨o, ho, _, hd⟩, _⟩ := st
    have z : b = e ∨ b = it := by simpa using hb
    rcases z with z | z
    · rw [z]
      exact ⟨_, he, fun v q => nomatch q⟩
    · rw [z]
      exact ⟨o, ho, fun v q => by rw [hd] at q; cases q⟩
  keep := fun i h h' st k => let ⟨⟨old, he⟩, hi, hne⟩ := st; ⟨⟨old, k e (by simp) _ he⟩, hi.at fun o q => k it (by simp) o q, hne⟩
  item := by
    intro X hP hw hK hc i pins s σ G E I hf st hg
    subst hP hw hK
    obtain ⟨⟨old, he⟩, hit, hne⟩ := st
    obtain ⟨xs, x, hq, hx⟩ := hg
    obtain ⟨its, rv, p, hz⟩ := I.tuple hq
    obtain ⟨u, hu, ru⟩ := rv.get hx
    have p2 : s.heap.IsTuple a its.toArray := p
    obtain ⟨oa, g1, g2, n1, g3⟩ := id p2
    obtain ⟨oi, i1, i2, i3⟩ := id hit
    have nai : a ≠ it := fun z => by
      rw [z, i1] at g1
      cases g1
      rw [i3] at g3
      cases g3
    have nea : e ≠ a := fun z => by
      have he2 := he
      unfold IsEnum at he2
      rw [z, g1] at he2
      cases he2
      cases g3
    have hel : e < s.heap.objs.size := Heap.lt_size he
    have hil : it < s.heap.objs.size := Heap.lt_size i1
    have D := Draws.tuple (prog := X.prog) (w := X.w) (A := X.A.in1) (I.ok.hd hc) it a nai its.toArray
    have hin : i < its.toArray.size := by
      have z : i < its.length := (List.getElem?_eq_some_iff.mp hu).1
      simpa using z
    refine wpAny_pyNext_enum_itemC D he ⟨hit, p2⟩ hin hne (by simp [hne, nea]) fun y h' tk hy ho hst' hT hsz hk => ?_
    have hy2 : y = u := by
      have z : its[i]? = some y := by simpa using hy
      rw [hu] at z
      exact (Option.some.inj z).symm
    subst hy2
    refine ⟨_, rfl, wpAny_letOwnedTupleGo_enum (s := { s with heap := h', toks := tk + 1 }) ho fun h2 he2 sb => ?_⟩
    have hT2 : h2.get? s.heap.objs.size = some { cls := .type "tuple", data := .seq #[.int (c + ((i : Nat) : Int)) tk, y] } := (sb.2 _ (Nat.ne_of_gt hel)).trans hT
    have new : ObjOk X.prog X.w (upd G s.heap.objs.size (.tup [.int (c + ((i : Nat) : Int)), x])) h2 s.heap.objs.size (.tup [.int (c + ((i : Nat) : Int)), x]) :=
      ⟨by show 2 ≤ sizeLine; decide, [.int (c + ((i : Nat) : Int)) tk, y], .cons ⟨_, rfl⟩ (.cons ru .nil), ⟨_, hT2, rfl, _, rfl⟩⟩
    have I1 : Inv X pins σ (upd G s.heap.objs.size (.tup [.int (c + ((i : Nat) : Int)), x])) { s with heap := h2, toks := tk + 1 } :=
      I.turnedNew (ch := [e, it]) (fun b ob hb q => (sb.2 b (fun z => hb (by simp [z]))).trans (hk b ob (fun z => hb (by simp [z])) (fun z => hb (by simp [z])) q)) hf (Nat.le_refl _) new
    refine ⟨.ref s.heap.objs.size, _, I1, rfl, ⟨_, x, rfl, I.hok.fresh (Nat.le_refl _), rfl, fun ys hys => by rw [I.tuple_inj hys hq]; exact hx⟩, ⟨⟨y, ?_⟩, hst'.1.at fun o q => (sb.2 it (Ne.symm hne)).trans q, hne⟩, fun b hb => ?_⟩
    · have e1 : c + ((i + 1 : Nat) : Int) = c + (i : Int) + 1 := by omega
      rw [e1]
      exact he2
    · have hb2 : b < s.heap.objs.size := by
        have z : b = e ∨ b = it := by simpa using hb
        rcases z with z | z
        · rw [z]; exact hel
        · rw [z]; exact hil
      rw [upd_ne (Nat.ne_of_lt hb2)]
      exact (hf b hb).1
  done := by
    intro X hP hw hK hc i pins s σ G E I hf st hg
    subst hP hw hK
    obtain ⟨⟨old, he⟩, hit, hne⟩ := st
    obtain ⟨xs, hq, hx⟩ := hg
    obtain ⟨its, rv, p, hz⟩ := I.tuple hq
    have p2 : s.heap.IsTuple a its.toArray := p
    obtain ⟨oa, g1, g2, n1, g3⟩ := id p2
    obtain ⟨oi, i1, i2, i3⟩ := id hit
    obtain ⟨f0, f1, f2, f3, f4, f5⟩ := hf it (by simp)
    have hl := rv.length
    have hit2 := hit
    have ends : ∀ h', Heap.ExtBut it s.heap h' → (none : Option Value) = none ∧ Inv X pins σ G { s with heap := h' } := fun h' eb => ⟨rfl, I.turned (t' := s.toks) (fun b o hb q => eb b o hb q) f0 f1 f3 f4 f5⟩
    have hT : s.TypeIs (.ref e) "enumerate" := ⟨_, he, rfl⟩
    unfold pyNext
    refine wpAny_bind (wpAny_attempt (wpAny_callSpecial?_slot (name := Str.ofString "__next__") hT F.slot_enumerate_next (wpAny_call_entry F.slot_enumerate_next hT F.entry_enumerate_next ?_ (F.args_enumerate_next_1 _))))
    show wpAny _ _ (field (.ref e) 2 >>= _) _ _ _
    refine wpAny_bind (wpAny_field he rfl (x := .ref it) rfl ?_)
    refine wpAny_bind (wpAny_nextOf_tuple_end (I.ok.hd hc) hit p2 (by simp; omega) fun h' x he' hx' => ?_)
    obtain ⟨o, ho, hc2⟩ := hx'
    refine wpAny_bind (wpAny_isInstance (T := "StopIteration") (b := true) ⟨o, ho, hc2⟩ isSubtype_stop ?_)
    exact wpAny_pure (ends _ he')
  self := fun A i s Q E st h => let ⟨⟨_, he⟩, _⟩ := st; wpAny_pyIter_enum he h
def iEnT (K : PySem.W.Frag) (ta : TA) : TI := fun σ G R => ta σ G fun vs G1 => ∃ a xs, vs = [.ref a] ∧ SqT K G1 a xs ∧ R (Ity K a 0) G1
def iEnTS (K : PySem.W.Frag) (ta tk : TA) : TI := fun σ G R => ta σ G fun vs G1 => tk σ G1 fun zs G2 => ∃ a xs c, vs = [.ref a] ∧ zs = [.int c] ∧ -(2 ^ 63) ≤ c ∧ c < 2 ^ 63 ∧ SqT K G2 a xs ∧ R (Ity K a c) G2
section
variable {X : Cx} {e : Expr} {ta tk : TA} {p pos tpos : Pos} {elts : List Expr} {kk : Nat} {kws : List Keyword}
theorem begun {pins : List (Addr × Obj)} {σ : L2.St} {G : Hp} {s1 : Shared} {R : It → Hp → Prop} {a : Addr} {c : Int} {h' : Heap} (I1 : Inv X pins σ G s1) (he : IsEnum h' (s1.heap.objs.size + 1) s1.heap.objs.size c .none)
    (hit : h'.get? s1.heap.objs.size = some { cls := .type "tuple_iterator", data := .fields #[.ref a, .int 0 0] }) (hk : ∀ b o, s1.heap.get? b = some o → h'.get? b = some o) (q : R (Ity X.K a c) G) :
    PIE X pins σ (.Tuple elts kk tpos) R (.ref (s1.heap.objs.size + 1)) { s1 with heap := h' } := by
  have I2 : Inv X pins σ G { s1 with heap := h' } := I1.kept (t' := s1.toks) hk
  have he0 : IsEnum h' (s1.heap.objs.size + 1) s1.heap.objs.size (c + ((0 : Nat) : Int)) .none := by
    rw [show c + ((0 : Nat) : Int) = c from by omega]
    exact he
  refine ⟨s1.heap.objs.size + 1, [s1.heap.objs.size + 1, s1.heap.objs.size], _, _, G, rfl, I2, turn_ity a (s1.heap.objs.size + 1) s1.heap.objs.size c, ⟨⟨.none, he0⟩, ⟨_, hit, rfl, rfl⟩, Nat.succ_ne_self _⟩, fun b hb => ?_, q⟩
  have z : b = s1.heap.objs.size + 1 ∨ b = s1.heap.objs.size := by simpa using hb
  have hle : s1.heap.objs.size ≤ b := by
    rcases z with z | z
    · rw [z]; exact Nat.le_add_right _ _
    · rw [z]; exact Nat.le_refl _
  exact I1.fpOk hle (I1.hok.fresh hle)
theorem pi_enT (hg : Gl X "enumerate") (hm : X.mg "enumerate" = none) (ha : PA X [e] ta) (hs : starEach [e] X.env = [(false, eval e X.env)] := by rfl) :
    PI X (.Tuple elts kk tpos) (.Call (.Name "enumerate" p) [e] [] pos) (iEnT X.K ta) := by
  refine ⟨fun pins s σ G R I h => ?_⟩
  refine Call_ (ld_blt I hg hm boot_enumerate (PyProof.Rows.callWith_type1 (thn (ha.run pos pins s σ G _ I h) fun us s1 ⟨vs, G1, I1, r1, q1⟩ => ?_) hs rfl))
  obtain ⟨a, xs, ex, hq, q⟩ := q1
  subst ex
  cases r1 with
  | cons r rr =>
    cases rr
    cases r
    obtain ⟨its, rv, p', hz⟩ := I1.tuple hq
    refine kd_enum1 (begins_tuple a its.toArray) (show s1.heap.IsTuple a its.toArray from p') fun h' he hit hsz hk => wpAny_pyIter_enum he (begun I1 he hit hk q)
theorem callWith_typeK {M : Model} {A : Around} {E : Value → Shared → Prop} {s : Shared} {env : Env} {T : String} {e : Expr} {rest : List Expr} {kws : List Keyword} {Q : Value → Shared → Prop}
    (h : wpAny M A (spliced (backTo pos (starEach (e :: rest) env))) (fun vs s1 => wpAny M A (evalAll ((backToKw pos (keywordEach kws env)).map (·.2)))
      (fun kvs s2 => wpAny M A (call (.type T) vs (((backToKw pos (keywordEach kws env)).filterMap (·.1)).zip kvs)) Q E s2) E s1) E s)
    (he : backTo pos (starEach (e :: rest) env) = (false, eval e env) :: backTo pos (starEach rest env) := by rfl)
    (hplain : (backTo pos (starEach (e :: rest) env)).any (·.1) = false := by rfl)
    (hall : (backToKw pos (keywordEach kws env)).all (·.1.isSome) = true := by rfl)
    (hkw : (backToKw pos (keywordEach kws env)).any (·.1.isNone) = false := by rfl) :
    wpAny M A (callWith pos (.type T) [] (backTo pos (starEach (e :: rest) env)) (backToKw pos (keywordEach kws env))) Q E s := by
  unfold callWith
  have hE : wpAny M A (evalArgs (.type T) true (backTo pos (starEach (e :: rest) env)) (backToKw pos (keywordEach kws env))) (fun a s1 => wpAny M A (call (.type T) ([] ++ a.pos) a.kw) Q E s1) E s := by
    rw [he] at h ⊢
    exact PyProof.Rows.evalArgs_kwB hall h
  refine wpAny_bind (wpAny_holding (wpAny_mono hE (fun a s1 g1 => wpAny_bind (wpAny_standAt ?_)) fun _ _ x => x))
  simp only [hplain, hkw, Bool.or_false]
  refine wpAny_bind (wpAny_pure ?_)
  exact wpAny_bind (wpAny_mono g1 (fun r s2 hr => wpAny_bind (wpAny_holding (wpAny_point (wpAny_pure hr)))) fun _ _ x => x)
theorem pi_enTS (hg : Gl X "enumerate") (hm : X.mg "enumerate" = none) (ha : PA X [e] ta) (hk : PK X kws tk)
    (hks : (backToKw pos (keywordEach kws X.env)).filterMap (·.1) = [("start" : Str)] := by rfl)
    (he : backTo pos (starEach [e] X.env) = (false, eval e X.env) :: backTo pos (starEach [] X.env) := by rfl)
    (hplain : (backTo pos (starEach [e] X.env)).any (·.1) = false := by rfl)
    (hall : (backToKw pos (keywordEach kws X.env)).all (·.1.isSome) = true := by rfl)
    (hkw : (backToKw pos (keywordEach kws X.env)).any (·.1.isNone) = false := by rfl) :
    PI X (.Tuple elts kk tpos) (.Call (.Name "enumerate" p) [e] kws pos) (iEnTS X.K ta tk) := by
  refine ⟨fun pins s σ G R I h => ?_⟩
  refine wpAny_Call_Name_kw (ld_blt I hg hm boot_enumerate ?_)
  refine callWith_typeK (thn (ha.run pos pins s σ G _ I h) fun us s1 ⟨vs, G1, I1, r1, q1⟩ => thn (hk.run pos pins s1 σ G1 _ I1 q1) fun ws s2 ⟨zs, G2, I2, r2, q2⟩ => ?_) he hplain hall hkw
  rw [hks]
  obtain ⟨a, xs, c, ex, ez, c0, c1, hq, q⟩ := q2
  subst ex ez
  cases r1 with
  | cons r rr =>
    cases rr
    cases r
    cases r2 with
    | cons t tt =>
      cases tt
      obtain ⟨t0, rfl⟩ := t
      obtain ⟨its, rv, p', hz⟩ := I2.tuple hq
      exact enum_begins_start (begins_tuple a its.toArray) (show s2.heap.IsTuple a its.toArray from p') c0 c1 fun h' he hit hsz hk => wpAny_pyIter_enum he (begun I2 he hit hk q)
end
theorem walk_ity {K : PySem.W.Frag} {a : Addr} {xs : List V} {c : Int} : Walk (Ity K a c) xs.length (fun G => SqT K G a xs) (YPair (fun i => some (.int (c + (i : Nat)))) (fun i => xs[i]?)) := by
  refine ⟨fun i _ hi q => ⟨xs, xs[i], q, by simp [hi]⟩, fun _ q => ⟨xs, q, Nat.le_refl _⟩, fun i G v G' _ q y => ?_⟩
  obtain ⟨t, x, h1, h2, h3, h4⟩ := y
  exact ⟨t, .int (c + (i : Nat)), x, h1, h2, h3, rfl, h4 xs q⟩
section
variable {X : Cx}
/-- sorted(d), its keys ints, any number of them -/
theorem call_sortedDA (hcalm : X.calm = true) : CallR X (.builtin "sorted") (fun xs G Q => ∃ (a : Addr) (kvs : List (Key × V)) (ks : List Int), xs = [.ref a] ∧ Rd G a (.dK kvs) ∧ kvs.map (·.1) = ks.map Sum.inl ∧
    ∀ (ys : List Int) (p : Addr), ys.Perm ks → ys.Pairwise (· ≤ ·) → G p = none → Q (.ref p) (upd G p (.lst (ys.map V.int)))) := by
  intro pins s σ G xs us Q I r q
  obtain ⟨a, kvs, ks, ex, hd, hks, q⟩ := q
  subst ex
  obtain ⟨u, eu, rx⟩ := vals1 r
  subst eu
  cases rx
  obtain ⟨z, lo, vs, rel, dd⟩ := dk_rd I.hok hd
  obtain ⟨ep, hat⟩ := dd.dictAt
  have hkeys : vs.map (·.1) = ks.map Sum.inl := rel.keys.symm.trans hks
  have hl : vs.length = ks.length := by
    have e := congrArg List.length hkeys
    rw [List.length_map, List.length_map] at e
    exact e
  have zv : vs.length ≤ sizeLine := by rw [← rel.length]; exact z
  refine Calls.call_function_entry PyProof.Rows.kind_sorted PyProof.Rows.plain_sorted PyProof.Rows.entry_sorted (PyProof.Rows.args_sorted1 _) ?_
  unfold Builtin.«sorted»
  refine wpAny_bind (m := checkCount "sorted" 1 1 _) (wpAny_pure ?_)
  refine wpAny_bind (PySem.W.kdu_collect (A := X.A.in1) (PySem.W.kdl_dict (knd := mixKind X.prog X.w) (kvs := vs) (ep := ep) lo) (I.ok.hd hcalm) hat zv fun h' tk acc hk hacc => ?_)
  have hal : acc.toList.length = ks.length := by rw [Array.length_toList, hacc.1, hl]
  have hS : IntsAre acc.toList ks := ints_each hal fun j v e => by
    obtain ⟨k, x, e1, e2⟩ := hacc.2 j v (by rw [← Array.getElem?_toList]; exact e)
    have e3 : (vs.map (·.1))[j]? = some k := by rw [List.getElem?_map, e1]; rfl
    rw [hkeys, List.getElem?_map] at e3
    cases e4 : ks[j]? with
    | none => rw [e4] at e3; cases e3
    | some y =>
      rw [e4] at e3
      have e5 : Sum.inl y = k := Option.some.inj e3
      subst e5
      rcases keyIs_shape (show keyIs (Sum.inl y) v = true from e2) with ⟨i, t, ek, ev⟩ | ⟨zz, t, ek, ev⟩
      · cases ek
        exact ⟨y, t, rfl, ev⟩
      · cases ek
  have I1 : Inv X pins σ G { s with heap := h', toks := tk } := I.kept hk
  have hsz : acc.toList.length ≤ sizeLine := by rw [hal, ← hl]; exact zv
  refine wpAny_bind (wpAny_newList ?_ hsz)
  have hoL : (h'.push (seqObj "list" acc.toList.toArray 0)).get? h'.objs.size = some (seqObj "list" acc.toList.toArray 0) := Heap.get?_push_size _ rfl
  show wpAny _ _ _ _ _ { s with heap := h'.push (seqObj "list" acc.toList.toArray 0), toks := tk }
  refine wpAny_bind (wpAny_holding (wpAny_call_entry PyProof.Rows.slot_list_sort ⟨_, hoL, rfl⟩ PyProof.Rows.entry_list_sort
    (SrtO.list_sort_ord (s := { s with heap := h'.push (seqObj "list" acc.toList.toArray 0), toks := tk }) SrtO.swo_int hoL hsz (fun h2 => SrtO.ints_sortable hS h2) fun out g1 g2 => ⟨_, rfl, ?_⟩) (PyProof.Rows.args_list_sort _)))
  obtain ⟨k1, k2, k3⟩ := SrtO.ints_out hS g1 g2
  obtain ⟨e', he'⟩ := PyProof.Rows.sortedHeap_at (vs := acc.toList) (out := out.toArray) hoL
  have hlen : ((out.map SrtO.iv).map V.int).length ≤ sizeLine := by
    rw [List.length_map, k2.length_eq, ← hal]
    exact hsz
  refine wpAny_pure ⟨_, rfl, .ref h'.objs.size, upd G h'.objs.size (.lst ((out.map SrtO.iv).map V.int)), I1.laid (t' := tk) (fun b u e => ?_) (Nat.le_refl _)
    (show ObjOk X.prog X.w _ _ _ (.lst ((out.map SrtO.iv).map V.int)) from ⟨hlen, out, e', vals_of_ints k1, he'⟩), rfl, q _ _ k2 k3 (I1.hok.fresh (Nat.le_refl _))⟩
  have hb : b < h'.objs.size := Heap.lt_size e
  rw [PyProof.Rows.sortedHeap_old (Nat.ne_of_lt hb) (by rw [size_push']; exact Nat.lt_succ_of_lt hb)]
  exact Heap.get?_push_of_some _ e
/-! ### plain tuples, whose objects are known; dict of one -/
def FzT (G : Hp) (a : Addr) (ys : List V) : Prop := ∃ ob : Obj, ob.dict = none ∧ G a = some (.frz ob (.tup ys))
theorem FzT.sq {K : PySem.W.Frag} {G : Hp} {a : Addr} {ys : List V} (h : FzT G a ys) : SqT K G a ys := by
  obtain ⟨ob, _, e⟩ := h
  exact .inl (.inr ⟨ob, e⟩)
/-- tuple(xs), xs a list -/
theorem call_tupleFz : CallR X (.type "tuple") (fun xs G Q => ∃ p ys, xs = [.ref p] ∧ SqL X.K G p ys ∧ ∀ l ob, G l = none → ob.dict = none → Q (.ref l) (upd G l (.frz ob (.tup ys)))) := by
  intro pins s σ G xs us Q I r h
  obtain ⟨p, ys, rfl, hq, q⟩ := h
  obtain ⟨u, rfl, rx⟩ := vals1 r
  cases rx
  obtain ⟨its, r', pl, hz⟩ := I.list hq
  have hlen := r'.length
  refine call_tuple_list pl.isList (fun h' kp => ?_) (by simp only [List.size_toArray] <;> omega)
  have I1 : Inv X pins σ G { s with heap := h' } := I.kept (t' := s.toks) kp
  have I2 : Inv X pins σ (upd G h'.objs.size (.frz { cls := .type "tuple", data := .seq its.toArray } (.tup ys))) { s with heap := h'.push { cls := .type "tuple", data := .seq its.toArray } } :=
    I1.laid (t' := s.toks) (fun b o e => Heap.get?_push_of_some _ e) (Nat.le_refl _) (show ObjOk X.prog X.w _ _ _ (.frz { cls := .type "tuple", data := .seq its.toArray } (.tup ys)) from ⟨Heap.get?_push_size _ rfl, hz, its, r', IsTup.new _ _⟩)
  exact ⟨.ref h'.objs.size, _, I2, rfl, q _ _ (I1.hok.fresh (Nat.le_refl _)) rfl⟩
theorem pairs_both {pins : List (Addr × Obj)} {σ : L2.St} {G : Hp} {s : Shared} (I : Inv X pins σ G s) : ∀ {ps : List Addr} {kvs : List (Key × V)}, Paired (fun p kv => SqT X.K G p [kV kv.1, kv.2]) ps kvs →
    ∃ (prs : List (Key × Value)) (ks : List (Value × Value)), KV kvs prs ∧ prs.length = ps.length ∧ ks.length = ps.length ∧
      ∀ (j : Nat) (k v : Value), ks[j]? = some (k, v) → ∃ (b : Addr) (y : Key), ps[j]? = some b ∧ IsTup s.heap b #[k, v] ∧ prs[j]? = some (y, v) ∧ keyIs y k = true
  | _, _, .nil => ⟨[], [], .nil, rfl, rfl, fun j _ _ e => by simp at e⟩
  | _, _, .cons (a := p) (b := kv) h t => by
    obtain ⟨prs, ks, rr, l1, l2, hp⟩ := pairs_both I t
    obtain ⟨its, rv, ht, _⟩ := I.tuple h
    obtain ⟨u, y, ei, ru, ry⟩ := vals2 rv
    subst ei
    refine ⟨(kv.1, y) :: prs, (u, y) :: ks, .cons ⟨rfl, ry⟩ rr, by rw [List.length_cons, List.length_cons, l1], by rw [List.length_cons, List.length_cons, l2], fun j k v e => ?_⟩
    cases j with
    | zero =>
      have e' : (u, y) = (k, v) := Option.some.inj e
      cases e'
      exact ⟨p, kv.1, rfl, ht, rfl, kV_is (P := X.prog) (w := X.w) ru⟩
    | succ j =>
      obtain ⟨b, z, e1, e2, e3, e4⟩ := hp j k v (by simpa using e)
      exact ⟨b, z, by simpa using e1, e2, by simpa using e3, e4⟩
/-- dict(t), t a plain tuple of pairs -/
theorem call_dictFz (hcalm : X.calm = true) : CallR X (.type "dict") (fun xs G Q => ∃ (a : Addr) (ps : List Addr) (kvs : List (Key × V)), xs = [.ref a] ∧ FzT G a (ps.map V.ref) ∧ Paired (fun p kv => SqT X.K G p [kV kv.1, kv.2]) ps kvs ∧
    ∀ p, G p = none → Q (.ref p) (upd G p (.dK (mergeK [] kvs)))) := by
  intro pins s σ G xs us Q I r q
  obtain ⟨a, ps, kvs, rfl, ⟨ob, od, ha⟩, hp, q⟩ := q
  obtain ⟨u, rfl, rx⟩ := vals1 r
  cases rx
  obtain ⟨hget, hz, its, rv, o2, g1, g2, n, g3⟩ := (show ObjOk X.prog X.w G s.heap a (.frz ob (.tup (ps.map V.ref))) from I.hok a _ ha)
  rw [hget] at g1
  cases g1
  have ei := refs_at rv
  subst ei
  rw [List.length_map] at hz
  obtain ⟨prs, ks, rel, l1, l2, hpr⟩ := pairs_both I hp
  have ok : PlainSeq "tuple" s.heap a (ps.map Value.ref).toArray ∧ PairItems s.heap (ps.map Value.ref).toArray (fun j => ps.getD j 0) ks := by
    refine ⟨⟨ob, n, hget, g2, od, g3⟩, by simp [l2], fun j k v e => ?_⟩
    obtain ⟨b, y, e1, e2, e3, e4⟩ := hpr j k v e
    have eb : ps.getD j 0 = b := by
      rw [List.getD_eq_getElem?_getD, e1]
      rfl
    show _ = some (Value.ref (ps.getD j 0)) ∧ PairAt s.heap (ps.getD j 0) k v
    rw [eb]
    exact ⟨by simp [e1], .inl e2⟩
  refine PySem.call_dict_pairs (knd := mixKind X.prog X.w) (kvs := prs) (PairArg.tuple a _ (fun j => ps.getD j 0) ks) (I.ok.hd hcalm) ok ⟨by rw [l1, l2], fun j k v e => ?_⟩ (by rw [l2]; exact hz) fun h' tk hd' kk => ?_
  · obtain ⟨b, y, e1, e2, e3, e4⟩ := hpr j k v e
    exact ⟨y, e3, e4⟩
  · have hm : (s.heap.objs.size == sysModules) = false := beq_eq_false_iff_ne.mpr (Nat.ne_of_gt I.big)
    have hlen : (mergeK [] kvs).length ≤ sizeLine := by
      refine Nat.le_trans (length_mergeK kvs []) ?_
      rw [List.length_nil, Nat.zero_add, rel.length, l1]
      exact hz
    exact ⟨.ref s.heap.objs.size, upd G s.heap.objs.size (.dK (mergeK [] kvs)), I.laid (t' := tk) (fun b o e => kk b o (fun z => nomatch z) e) (Nat.le_refl _) (show ObjOk X.prog X.w _ _ _ (.dK (mergeK [] kvs)) from ⟨hlen, hm, merged [] prs, KV.merge rel .nil, hd'⟩), rfl, q _ (I.hok.fresh (Nat.le_refl _))⟩
end
end KD
set_option maxRecDepth 100000
set_option maxHeartbeats 0
namespace K47
open PySem PySem.Spec PyProof.Rows L2
def top (i : Nat) : Stmt := PySem.Challenge.pw_latepresses_k47_whole_learned_by_tables.main.body.getD i (.Pass ⟨0, 0, 0, 0⟩)
abbrev s_is_whole : Stmt := top 9
abbrev s_is_between : Stmt := top 10
abbrev s_ascends : Stmt := top 11
abbrev s_is_press : Stmt := top 13
abbrev s_is_behind : Stmt := top 15
abbrev s_with_row : Stmt := top 16
abbrev s_ends_that_clash : Stmt := top 17
abbrev s_is_known : Stmt := top 19
abbrev s_is_made : Stmt := top 20
abbrev s_is_tick : Stmt := top 21
abbrev s_learned : Stmt := top 22
abbrev s_need_known : Stmt := top 23
abbrev s_need_tick : Stmt := top 24
abbrev s_law_deck : Stmt := top 26
abbrev s_law_draw : Stmt := top 27
abbrev s_law_same : Stmt := top 28
abbrev s_law_known : Stmt := top 29
abbrev s_law_press : Stmt := top 30
abbrev s_law_letter : Stmt := top 31
abbrev s_law_due : Stmt := top 32
abbrev s_law_right : Stmt := top 33
abbrev s_law : Stmt := top 34
abbrev s_GameError_init : Stmt := inClass (top 1) 0
abbrev FnQ (K : PySem.W.Frag) (x q : Str) (st : Stmt) (f : Addr) (fd : FuncData) : Prop := FunD K x q (defArgs st) (defBody st) (defScope st) [] [] f fd
def fdAt (K : PySem.W.Frag) (a : Addr) : FuncData := match K.lookup a with
  | some ⟨_, _, .func fd, _⟩ => fd
  | _ => PySem.W.fnOf "" "" (defArgs (top 0)) [] (defScope (top 0)) .none .none .none .none none .none .none
theorem fdAt_eq {K : PySem.W.Frag} {a : Addr} {x q : Str} {st : Stmt} {fd : FuncData} (F : FnQ K x q st a fd) : FnQ K x q st a (fdAt K a) := by
  obtain ⟨oc, od, dV, kV, doc, pm, an, cdv, ct, osl, e, lk, r⟩ := F.ex
  have h : fdAt K a = fd := by
    unfold fdAt
    rw [lk]
  rw [h]
  exact F
def d_is_whole : He.DefD := ⟨("is_whole", none), "is_whole", "is_whole", defArgs s_is_whole, defBody s_is_whole, defScope s_is_whole, [], []⟩
def d_is_between : He.DefD := ⟨("is_between", none), "is_between", "is_between", defArgs s_is_between, defBody s_is_between, defScope s_is_between, [], []⟩
def d_ascends : He.DefD := ⟨("ascends", none), "ascends", "ascends", defArgs s_ascends, defBody s_ascends, defScope s_ascends, [], []⟩
def d_is_press : He.DefD := ⟨("is_press", none), "is_press", "is_press", defArgs s_is_press, defBody s_is_press, defScope s_is_press, [], []⟩
def d_is_behind : He.DefD := ⟨("is_behind", none), "is_behind", "is_behind", defArgs s_is_behind, defBody s_is_behind, defScope s_is_behind, [], []⟩
def d_with_row : He.DefD := ⟨("with_row", none), "with_row", "with_row", defArgs s_with_row, defBody s_with_row, defScope s_with_row, [], []⟩
def d_ends_that_clash : He.DefD := ⟨("_ends_that_clash", none), "_ends_that_clash", "_ends_that_clash", defArgs s_ends_that_clash, defBody s_ends_that_clash, defScope s_ends_that_clash, [], []⟩
def d_is_known : He.DefD := ⟨("is_known", none), "is_known", "is_known", defArgs s_is_known, defBody s_is_known, defScope s_is_known, [], []⟩
def d_is_made : He.DefD := ⟨("_is_made", none), "_is_made", "_is_made", defArgs s_is_made, defBody s_is_made, defScope s_is_made, [], []⟩
def d_is_tick : He.DefD := ⟨("_is_tick", none), "_is_tick", "_is_tick", defArgs s_is_tick, defBody s_is_tick, defScope s_is_tick, [], []⟩
def d_learned : He.DefD := ⟨("learned", none), "learned", "learned", defArgs s_learned, defBody s_learned, defScope s_learned, [], []⟩
def d_need_known : He.DefD := ⟨("_need_known", none), "_need_known", "_need_known", defArgs s_need_known, defBody s_need_known, defScope s_need_known, [], []⟩
def d_need_tick : He.DefD := ⟨("_need_tick", none), "_need_tick", "_need_tick", defArgs s_need_tick, defBody s_need_tick, defScope s_need_tick, [], []⟩
def d_law_deck : He.DefD := ⟨("_law_deck", none), "_law_deck", "_law_deck", defArgs s_law_deck, defBody s_law_deck, defScope s_law_deck, [], []⟩
def d_law_draw : He.DefD := ⟨("_law_draw", none), "_law_draw", "_law_draw", defArgs s_law_draw, defBody s_law_draw, defScope s_law_draw, [], []⟩
def d_law_same : He.DefD := ⟨("_law_same", none), "_law_same", "_law_same", defArgs s_law_same, defBody s_law_same, defScope s_law_same, [], []⟩
def d_law_known : He.DefD := ⟨("_law_known", none), "_law_known", "_law_known", defArgs s_law_known, defBody s_law_known, defScope s_law_known, [], []⟩
def d_law_press : He.DefD := ⟨("_law_press", none), "_law_press", "_law_press", defArgs s_law_press, defBody s_law_press, defScope s_law_press, [], []⟩
def d_law_letter : He.DefD := ⟨("_law_letter", none), "_law_letter", "_law_letter", defArgs s_law_letter, defBody s_law_letter, defScope s_law_letter, [], []⟩
def d_law_due : He.DefD := ⟨("_law_due", none), "_law_due", "_law_due", defArgs s_law_due, defBody s_law_due, defScope s_law_due, [], []⟩
def d_law_right : He.DefD := ⟨("_law_right", none), "_law_right", "_law_right", defArgs s_law_right, defBody s_law_right, defScope s_law_right, [], []⟩
def d_law : He.DefD := ⟨("law", none), "law", "law", defArgs s_law, defBody s_law, defScope s_law, [], []⟩
def d_GameError_init : He.DefD := ⟨("GameError", some "__init__"), "__init__", "GameError.__init__", defArgs s_GameError_init, defBody s_GameError_init, defScope s_GameError_init, [], []⟩
def loose0 : List Str := ["is_whole", "is_between", "ascends", "is_press", "is_behind", "with_row", "_ends_that_clash", "is_known", "_is_made", "_is_tick", "learned", "_need_known", "_need_tick", "_law_deck", "_law_draw", "_law_same", "_law_known", "_law_press", "_law_letter", "_law_due", "_law_right", "GameError", "InvalidPress", "InvalidKnown", "InvalidTick", "InvalidLetter", "Clash", "MOST_PRESS"]
def loose : List Str := loose0
def fn : List He.DefD := [d_is_whole, d_is_between, d_ascends, d_is_press, d_is_behind, d_with_row, d_ends_that_clash, d_is_known, d_is_made, d_is_tick, d_learned, d_need_known, d_need_tick, d_law_deck, d_law_draw, d_law_same, d_law_known, d_law_press, d_law_letter, d_law_due, d_law_right, d_law, d_GameError_init]
def fa : List He.Fa := [.glo "is_whole", .glo "is_between", .glo "ascends", .glo "is_press", .glo "is_behind", .glo "with_row", .glo "_ends_that_clash", .glo "is_known", .glo "_is_made", .glo "_is_tick", .glo "learned", .glo "_need_known", .glo "_need_tick", .glo "_law_deck", .glo "_law_draw", .glo "_law_same", .glo "_law_known", .glo "_law_press", .glo "_law_letter", .glo "_law_due", .glo "_law_right", .glo "law", .free "len", .free "int", .free "isinstance", .free "range", .free "all", .free "min", .free "max", .free "bool", .free "tuple", .free "list", .free "sorted", .free "zip", .free "enumerate", .free "ValueError", .free "repr", .free "abs", .free "dict", .int "MOST_PRESS" 63, .glo "GameError", .glo "InvalidPress", .glo "InvalidKnown", .glo "InvalidTick", .glo "InvalidLetter", .glo "Clash"]
def tupA (K : PySem.W.Frag) (a : Addr) (vs : List He.Dv) : Bool := match K.lookup a with
  | some ⟨.type c, _, .seq its _, _⟩ => decide (c = "tuple") && (decide (its.size ≤ sizeLine) && He.relAll (vs.map (He.Dv.v K)) its.toList)
  | _ => false
theorem tupA_ok {K : PySem.W.Frag} {a : Addr} {vs : List He.Dv} (h : tupA K a vs = true) (H : Hp) : SqT K H a (vs.map (He.Dv.v K)) := by
  unfold tupA at h
  split at h
  · rename_i c dd its n sl q
    obtain ⟨h1, h2⟩ := He.ba h
    obtain ⟨h3, h4⟩ := He.ba h2
    exact .inr ⟨_, its, n, q, congrArg Value.type (of_decide_eq_true h1), rfl, of_decide_eq_true h3, He.relAll_ok h4⟩
  · cases h
/-- where a written dict's value lies -/
def dtA (K : PySem.W.Frag) (x k : Str) : Addr := match PySem.W.nsIn K (He.ga K x) k with
  | some (some (.ref a)) => a
  | _ => 0
def dtB (K : PySem.W.Frag) (x : Str) (q : Str × List He.Dv) : Bool := decide (PySem.W.nsIn K (He.ga K x) q.1 = some (some (.ref (dtA K x q.1)))) && tupA K (dtA K x q.1) q.2
def tabs : List He.Tab := []
/-- the class object over ValueError -/
def okC (K : PySem.W.Frag) (C : Addr) : Bool := match K.lookup C with
  | some ⟨.type "type", _, .cls cd, sl⟩ => (match cd.mro, sl.toList with
    | .ref C' :: bm, [_, _, _, _, some (.builtin n), _] => decide (C' = C) && (decide (n = "ValueError.__new__") && (!cd.hasDel && (cd.hasDict && PySem.HandSPX.refsVE bm)))
    | _, _ => false)
  | _ => false
theorem okC_ok {K : PySem.W.Frag} {C : Addr} (h : okC K C = true) :
    ∃ nm q N bs bm sn sub ab col dd k0 k1 k2 k3 k5, K.lookup C = some (excClassObj nm q C N bs bm true sn sub ab col dd k0 k1 k2 k3 k5 "ValueError.__new__") ∧ PySem.HandSPX.refsVE bm = true := by
  unfold okC at h
  split at h
  · rename_i dv cd sl ho
    split at h
    · rename_i C' bm k0 k1 k2 k3 n k5 hm hs
      simp only [Bool.and_eq_true, decide_eq_true_eq, Bool.not_eq_true'] at h
      obtain ⟨h1, h2, h3, h4, h5⟩ := h
      subst h1 h2
      obtain ⟨nm, bs, mro, ns, qn, hd, sn, sub, ab, col, del⟩ := cd
      dsimp only at hm h3 h4
      subst hm h3 h4
      have hsl : sl = #[k0, k1, k2, k3, some (.builtin "ValueError.__new__"), k5] := by
        obtain ⟨l⟩ := sl
        simp only at hs
        rw [hs]
      subst hsl
      exact ⟨nm, qn, ns, bs, bm, sn, sub, ab, col, dv, k0, k1, k2, k3, k5, ho, h5⟩
    · cases h
  · cases h
def iAd (K : PySem.W.Frag) : Addr := He.fAd K ("GameError", some "__init__")
def eqV (a b : Option (Option Value)) : Bool := decide (a = b)
def eqB (a b : Option Bool) : Bool := decide (a = b)
/-- all that is asked of one class -/
def exC (K : PySem.W.Frag) (C : Addr) : Bool :=
  okC K C && (eqV (PySem.W.findIn K (.ref C) "__setattr__") (some (some (.builtin "object.__setattr__"))) && (eqB (PySem.W.subIn K (.ref C) (.type "BaseException")) (some true) && (decide (PySem.W.typeIn K (.ref C) = some (.type "type")) &&
  (PySem.W.keepIn K (.ref C) && (eqV (PySem.W.findIn K (.ref C) "__init__") (some (some (.ref (iAd K)))) && (eqV (PySem.W.findIn K (.ref C) "value") (some none) &&
  (eqV (PySem.W.findIn K (.ref C) "__getattribute__") (some (some (.builtin "BaseException.__getattribute__"))) && (eqV (PySem.W.findIn K (.ref C) "__getattr__") (some none) && (PySem.W.hasDictIn K C &&
  (eqV (PySem.W.findIn K (.ref C) "__class__") (some (some (.builtin "object.__class__"))) && (eqB (PySem.W.mroIn K C (.type "object")) (some true) && (eqB (PySem.W.exmOne K (.ref C) (.ref (He.ga K "GameError"))) (some true) &&
  eqB (PySem.W.kitOne K (.ref C) (.type "ValueError")) (some true)))))))))))))
def exG (K : PySem.W.Frag) : Bool :=
  eqV (PySem.W.specialIn K (.builtin "object.__class__") "__get__") (some (some (.builtin "getset_descriptor.__get__"))) && (eqB (PySem.W.takesIn K (.builtin "object.__class__")) (some true) &&
  (decide (PySem.W.typeIn K (.ref (iAd K)) = some (.type "function")) && (match PySem.W.findCls K (.type "ValueError") (.type "type") "__init__" with
    | some (.val (.builtin s)) => decide (s = "ValueError.__init__")
    | _ => false)))
def nots : List Str := ["InvalidKnown", "InvalidLetter", "InvalidPress", "InvalidTick"]
def exAll (K : PySem.W.Frag) : Bool := exG K && (exC K (He.ga K "Clash") && (eqB (PySem.W.kitOne K (.ref (He.ga K "Clash")) (.ref (He.ga K "Clash"))) (some true) &&
  nots.all fun y => eqB (PySem.W.kitOne K (.ref (He.ga K "Clash")) (.ref (He.ga K y))) (some false)))
def exs (K : PySem.W.Frag) : Bool := exAll K && (true)
abbrev R : PySem.W.OpenRow := PySem.W.OpenLaw.row PySem.Challenge.rw_latepresses_k47_whole_learned_by_tables
abbrev hk : PySem.W.Hook := He.hookX 6 fa fn tabs [] exs
def ob (s : PySem.W.SharedT) : He.AlX := He.obsX 6 fa fn tabs [] exs (HandSHeadRun.getT s)
theorem ob_eq (s : PySem.W.SharedT) : ob s = hk.obs s.abs := He.obsX_eq (HandSHeadRun.getT_eq s)
theorem run0 (w : World) : HandSHeadRun.RunEq R (PySem.W.view R.prog [34]) hk ob 20000 loose (w.withFollow "special-get-raises" false) := by
  intro os
  kernel_rfl
theorem run1 (w : World) : HandSHeadRun.RunEq R (PySem.W.view R.prog [34]) hk ob 20000 loose (w.withFollow "special-get-raises" true) := by
  intro os
  kernel_rfl
theorem run (w : World) : HandSHeadRun.RunEq R (PySem.W.view R.prog [34]) hk ob 20000 loose w :=
  PySem.W.byRow2 "special-get-raises" (P := fun w => HandSHeadRun.RunEq R (PySem.W.view R.prog [34]) hk ob 20000 loose w) run0 run1 w
structure Txt (K : PySem.W.Frag) (w : World) (mg : Str → Option Value) : Prop where
  F_is_whole : FnQ K "is_whole" "is_whole" s_is_whole (He.fAd K ("is_whole", none)) (fdAt K (He.fAd K ("is_whole", none)))
  b_is_whole : Binds K (fdAt K (He.fAd K ("is_whole", none))) ["told"] []
  F_is_between : FnQ K "is_between" "is_between" s_is_between (He.fAd K ("is_between", none)) (fdAt K (He.fAd K ("is_between", none)))
  b_is_between : Binds K (fdAt K (He.fAd K ("is_between", none))) ["told", "low", "high"] []
  F_ascends : FnQ K "ascends" "ascends" s_ascends (He.fAd K ("ascends", none)) (fdAt K (He.fAd K ("ascends", none)))
  b_ascends : Binds K (fdAt K (He.fAd K ("ascends", none))) ["row"] []
  F_is_press : FnQ K "is_press" "is_press" s_is_press (He.fAd K ("is_press", none)) (fdAt K (He.fAd K ("is_press", none)))
  b_is_press : Binds K (fdAt K (He.fAd K ("is_press", none))) ["told"] []
  F_is_behind : FnQ K "is_behind" "is_behind" s_is_behind (He.fAd K ("is_behind", none)) (fdAt K (He.fAd K ("is_behind", none)))
  b_is_behind : Binds K (fdAt K (He.fAd K ("is_behind", none))) ["tick", "ends"] []
  F_with_row : FnQ K "with_row" "with_row" s_with_row (He.fAd K ("with_row", none)) (fdAt K (He.fAd K ("with_row", none)))
  b_with_row : Binds K (fdAt K (He.fAd K ("with_row", none))) ["known", "first", "row", "ends"] []
  F_ends_that_clash : FnQ K "_ends_that_clash" "_ends_that_clash" s_ends_that_clash (He.fAd K ("_ends_that_clash", none)) (fdAt K (He.fAd K ("_ends_that_clash", none)))
  b_ends_that_clash : Binds K (fdAt K (He.fAd K ("_ends_that_clash", none))) ["one", "other"] []
  F_is_known : FnQ K "is_known" "is_known" s_is_known (He.fAd K ("is_known", none)) (fdAt K (He.fAd K ("is_known", none)))
  b_is_known : Binds K (fdAt K (He.fAd K ("is_known", none))) ["told"] []
  F_is_made : FnQ K "_is_made" "_is_made" s_is_made (He.fAd K ("_is_made", none)) (fdAt K (He.fAd K ("_is_made", none)))
  b_is_made : Binds K (fdAt K (He.fAd K ("_is_made", none))) ["made", "ends"] []
  F_is_tick : FnQ K "_is_tick" "_is_tick" s_is_tick (He.fAd K ("_is_tick", none)) (fdAt K (He.fAd K ("_is_tick", none)))
  b_is_tick : Binds K (fdAt K (He.fAd K ("_is_tick", none))) ["told"] []
  F_learned : FnQ K "learned" "learned" s_learned (He.fAd K ("learned", none)) (fdAt K (He.fAd K ("learned", none)))
  b_learned : Binds K (fdAt K (He.fAd K ("learned", none))) ["known", "first", "row", "ends"] []
  F_need_known : FnQ K "_need_known" "_need_known" s_need_known (He.fAd K ("_need_known", none)) (fdAt K (He.fAd K ("_need_known", none)))
  b_need_known : Binds K (fdAt K (He.fAd K ("_need_known", none))) ["knowns"] []
  F_need_tick : FnQ K "_need_tick" "_need_tick" s_need_tick (He.fAd K ("_need_tick", none)) (fdAt K (He.fAd K ("_need_tick", none)))
  b_need_tick : Binds K (fdAt K (He.fAd K ("_need_tick", none))) ["tick"] []
  F_law_deck : FnQ K "_law_deck" "_law_deck" s_law_deck (He.fAd K ("_law_deck", none)) (fdAt K (He.fAd K ("_law_deck", none)))
  b_law_deck : Binds K (fdAt K (He.fAd K ("_law_deck", none))) ["script", "at"] []
  F_law_draw : FnQ K "_law_draw" "_law_draw" s_law_draw (He.fAd K ("_law_draw", none)) (fdAt K (He.fAd K ("_law_draw", none)))
  b_law_draw : Binds K (fdAt K (He.fAd K ("_law_draw", none))) ["deck", "many"] []
  F_law_same : FnQ K "_law_same" "_law_same" s_law_same (He.fAd K ("_law_same", none)) (fdAt K (He.fAd K ("_law_same", none)))
  b_law_same : Binds K (fdAt K (He.fAd K ("_law_same", none))) ["told", "due"] []
  F_law_known : FnQ K "_law_known" "_law_known" s_law_known (He.fAd K ("_law_known", none)) (fdAt K (He.fAd K ("_law_known", none)))
  b_law_known : Binds K (fdAt K (He.fAd K ("_law_known", none))) ["deck"] []
  F_law_press : FnQ K "_law_press" "_law_press" s_law_press (He.fAd K ("_law_press", none)) (fdAt K (He.fAd K ("_law_press", none)))
  b_law_press : Binds K (fdAt K (He.fAd K ("_law_press", none))) ["known", "tick"] []
  F_law_letter : FnQ K "_law_letter" "_law_letter" s_law_letter (He.fAd K ("_law_letter", none)) (fdAt K (He.fAd K ("_law_letter", none)))
  b_law_letter : Binds K (fdAt K (He.fAd K ("_law_letter", none))) ["deck", "known"] []
  F_law_due : FnQ K "_law_due" "_law_due" s_law_due (He.fAd K ("_law_due", none)) (fdAt K (He.fAd K ("_law_due", none)))
  b_law_due : Binds K (fdAt K (He.fAd K ("_law_due", none))) ["known", "first", "row", "ends"] []
  F_law_right : FnQ K "_law_right" "_law_right" s_law_right (He.fAd K ("_law_right", none)) (fdAt K (He.fAd K ("_law_right", none)))
  b_law_right : Binds K (fdAt K (He.fAd K ("_law_right", none))) ["known", "letter", "due", "by_name"] []
  F_law : FnQ K "law" "law" s_law (He.fAd K ("law", none)) (fdAt K (He.fAd K ("law", none)))
  b_law : Binds K (fdAt K (He.fAd K ("law", none))) ["script"] []
  F_GameError_init : FnQ K "__init__" "GameError.__init__" s_GameError_init (He.fAd K ("GameError", some "__init__")) (fdAt K (He.fAd K ("GameError", some "__init__")))
  b_GameError_init : Binds K (fdAt K (He.fAd K ("GameError", some "__init__"))) ["self", "value"] []
  g_is_whole : mg "is_whole" = some (.ref (He.ga K "is_whole"))
  g_is_between : mg "is_between" = some (.ref (He.ga K "is_between"))
  g_ascends : mg "ascends" = some (.ref (He.ga K "ascends"))
  g_is_press : mg "is_press" = some (.ref (He.ga K "is_press"))
  g_is_behind : mg "is_behind" = some (.ref (He.ga K "is_behind"))
  g_with_row : mg "with_row" = some (.ref (He.ga K "with_row"))
  g_ends_that_clash : mg "_ends_that_clash" = some (.ref (He.ga K "_ends_that_clash"))
  g_is_known : mg "is_known" = some (.ref (He.ga K "is_known"))
  g_is_made : mg "_is_made" = some (.ref (He.ga K "_is_made"))
  g_is_tick : mg "_is_tick" = some (.ref (He.ga K "_is_tick"))
  g_learned : mg "learned" = some (.ref (He.ga K "learned"))
  g_need_known : mg "_need_known" = some (.ref (He.ga K "_need_known"))
  g_need_tick : mg "_need_tick" = some (.ref (He.ga K "_need_tick"))
  g_law_deck : mg "_law_deck" = some (.ref (He.ga K "_law_deck"))
  g_law_draw : mg "_law_draw" = some (.ref (He.ga K "_law_draw"))
  g_law_same : mg "_law_same" = some (.ref (He.ga K "_law_same"))
  g_law_known : mg "_law_known" = some (.ref (He.ga K "_law_known"))
  g_law_press : mg "_law_press" = some (.ref (He.ga K "_law_press"))
  g_law_letter : mg "_law_letter" = some (.ref (He.ga K "_law_letter"))
  g_law_due : mg "_law_due" = some (.ref (He.ga K "_law_due"))
  g_law_right : mg "_law_right" = some (.ref (He.ga K "_law_right"))
  g_law : mg "law" = some (.ref (He.ga K "law"))
  n_len : mg "len" = none
  n_int : mg "int" = none
  n_isinstance : mg "isinstance" = none
  n_range : mg "range" = none
  n_all : mg "all" = none
  n_min : mg "min" = none
  n_max : mg "max" = none
  n_bool : mg "bool" = none
  n_tuple : mg "tuple" = none
  n_list : mg "list" = none
  n_sorted : mg "sorted" = none
  n_zip : mg "zip" = none
  n_enumerate : mg "enumerate" = none
  n_ValueError : mg "ValueError" = none
  n_repr : mg "repr" = none
  n_abs : mg "abs" = none
  n_dict : mg "dict" = none
  c_MOST_PRESS : ∃ u, mg "MOST_PRESS" = some u ∧ RelV (.int 63) u
  g_GameError : mg "GameError" = some (.ref (He.ga K "GameError"))
  g_InvalidPress : mg "InvalidPress" = some (.ref (He.ga K "InvalidPress"))
  g_InvalidKnown : mg "InvalidKnown" = some (.ref (He.ga K "InvalidKnown"))
  g_InvalidTick : mg "InvalidTick" = some (.ref (He.ga K "InvalidTick"))
  g_InvalidLetter : mg "InvalidLetter" = some (.ref (He.ga K "InvalidLetter"))
  g_Clash : mg "Clash" = some (.ref (He.ga K "Clash"))
  ex : exAll K = true
theorem txt_of {K : PySem.W.Frag} {w : World} {h h0 : Heap} {mg : Str → Option Value} (X : K.In h) (G : h.Ns mainGlobals mg) (c : He.SaysX fa fn tabs [] exs w h0 K) : Txt K w mg := by
  have cd := c.t.d
  have e0 : exs K = true := c.more
  unfold exs at e0
  obtain ⟨x0, e0⟩ := He.ba e0
  obtain ⟨fd_is_whole, f_is_whole⟩ := cd.def_ 0 (d := d_is_whole) rfl
  obtain ⟨fd_is_between, f_is_between⟩ := cd.def_ 1 (d := d_is_between) rfl
  obtain ⟨fd_ascends, f_ascends⟩ := cd.def_ 2 (d := d_ascends) rfl
  obtain ⟨fd_is_press, f_is_press⟩ := cd.def_ 3 (d := d_is_press) rfl
  obtain ⟨fd_is_behind, f_is_behind⟩ := cd.def_ 4 (d := d_is_behind) rfl
  obtain ⟨fd_with_row, f_with_row⟩ := cd.def_ 5 (d := d_with_row) rfl
  obtain ⟨fd_ends_that_clash, f_ends_that_clash⟩ := cd.def_ 6 (d := d_ends_that_clash) rfl
  obtain ⟨fd_is_known, f_is_known⟩ := cd.def_ 7 (d := d_is_known) rfl
  obtain ⟨fd_is_made, f_is_made⟩ := cd.def_ 8 (d := d_is_made) rfl
  obtain ⟨fd_is_tick, f_is_tick⟩ := cd.def_ 9 (d := d_is_tick) rfl
  obtain ⟨fd_learned, f_learned⟩ := cd.def_ 10 (d := d_learned) rfl
  obtain ⟨fd_need_known, f_need_known⟩ := cd.def_ 11 (d := d_need_known) rfl
  obtain ⟨fd_need_tick, f_need_tick⟩ := cd.def_ 12 (d := d_need_tick) rfl
  obtain ⟨fd_law_deck, f_law_deck⟩ := cd.def_ 13 (d := d_law_deck) rfl
  obtain ⟨fd_law_draw, f_law_draw⟩ := cd.def_ 14 (d := d_law_draw) rfl
  obtain ⟨fd_law_same, f_law_same⟩ := cd.def_ 15 (d := d_law_same) rfl
  obtain ⟨fd_law_known, f_law_known⟩ := cd.def_ 16 (d := d_law_known) rfl
  obtain ⟨fd_law_press, f_law_press⟩ := cd.def_ 17 (d := d_law_press) rfl
  obtain ⟨fd_law_letter, f_law_letter⟩ := cd.def_ 18 (d := d_law_letter) rfl
  obtain ⟨fd_law_due, f_law_due⟩ := cd.def_ 19 (d := d_law_due) rfl
  obtain ⟨fd_law_right, f_law_right⟩ := cd.def_ 20 (d := d_law_right) rfl
  obtain ⟨fd_law, f_law⟩ := cd.def_ 21 (d := d_law) rfl
  obtain ⟨fd_GameError_init, f_GameError_init⟩ := cd.def_ 22 (d := d_GameError_init) rfl
  exact {
    F_is_whole := fdAt_eq f_is_whole
    b_is_whole := (fdAt_eq (st := s_is_whole) f_is_whole).bindsN fun _ _ _ _ _ _ us hl => match us, hl with | [_], _ => rfl
    F_is_between := fdAt_eq f_is_between
    b_is_between := (fdAt_eq (st := s_is_between) f_is_between).bindsN fun _ _ _ _ _ _ us hl => match us, hl with | [_, _, _], _ => rfl
    F_ascends := fdAt_eq f_ascends
    b_ascends := (fdAt_eq (st := s_ascends) f_ascends).bindsN fun _ _ _ _ _ _ us hl => match us, hl with | [_], _ => rfl
    F_is_press := fdAt_eq f_is_press
    b_is_press := (fdAt_eq (st := s_is_press) f_is_press).bindsN fun _ _ _ _ _ _ us hl => match us, hl with | [_], _ => rfl
    F_is_behind := fdAt_eq f_is_behind
    b_is_behind := (fdAt_eq (st := s_is_behind) f_is_behind).bindsN fun _ _ _ _ _ _ us hl => match us, hl with | [_, _], _ => rfl
    F_with_row := fdAt_eq f_with_row
    b_with_row := (fdAt_eq (st := s_with_row) f_with_row).bindsN fun _ _ _ _ _ _ us hl => match us, hl with | [_, _, _, _], _ => rfl
    F_ends_that_clash := fdAt_eq f_ends_that_clash
    b_ends_that_clash := (fdAt_eq (st := s_ends_that_clash) f_ends_that_clash).bindsN fun _ _ _ _ _ _ us hl => match us, hl with | [_, _], _ => rfl
    F_is_known := fdAt_eq f_is_known
    b_is_known := (fdAt_eq (st := s_is_known) f_is_known).bindsN fun _ _ _ _ _ _ us hl => match us, hl with | [_], _ => rfl
    F_is_made := fdAt_eq f_is_made
    b_is_made := (fdAt_eq (st := s_is_made) f_is_made).bindsN fun _ _ _ _ _ _ us hl => match us, hl with | [_, _], _ => rfl
    F_is_tick := fdAt_eq f_is_tick
    b_is_tick := (fdAt_eq (st := s_is_tick) f_is_tick).bindsN fun _ _ _ _ _ _ us hl => match us, hl with | [_], _ => rfl
    F_learned := fdAt_eq f_learned
    b_learned := (fdAt_eq (st := s_learned) f_learned).bindsN fun _ _ _ _ _ _ us hl => match us, hl with | [_, _, _, _], _ => rfl
    F_need_known := fdAt_eq f_need_known
    b_need_known := (fdAt_eq (st := s_need_known) f_need_known).bindsN fun _ _ _ _ _ _ us hl => match us, hl with | [_], _ => rfl
    F_need_tick := fdAt_eq f_need_tick
    b_need_tick := (fdAt_eq (st := s_need_tick) f_need_tick).bindsN fun _ _ _ _ _ _ us hl => match us, hl with | [_], _ => rfl
    F_law_deck := fdAt_eq f_law_deck
    b_law_deck := (fdAt_eq (st := s_law_deck) f_law_deck).bindsN fun _ _ _ _ _ _ us hl => match us, hl with | [_, _], _ => rfl
    F_law_draw := fdAt_eq f_law_draw
    b_law_draw := (fdAt_eq (st := s_law_draw) f_law_draw).bindsN fun _ _ _ _ _ _ us hl => match us, hl with | [_, _], _ => rfl
    F_law_same := fdAt_eq f_law_same
    b_law_same := (fdAt_eq (st := s_law_same) f_law_same).bindsN fun _ _ _ _ _ _ us hl => match us, hl with | [_, _], _ => rfl
    F_law_known := fdAt_eq f_law_known
    b_law_known := (fdAt_eq (st := s_law_known) f_law_known).bindsN fun _ _ _ _ _ _ us hl => match us, hl with | [_], _ => rfl
    F_law_press := fdAt_eq f_law_press
    b_law_press := (fdAt_eq (st := s_law_press) f_law_press).bindsN fun _ _ _ _ _ _ us hl => match us, hl with | [_, _], _ => rfl
    F_law_letter := fdAt_eq f_law_letter
    b_law_letter := (fdAt_eq (st := s_law_letter) f_law_letter).bindsN fun _ _ _ _ _ _ us hl => match us, hl with | [_, _], _ => rfl
    F_law_due := fdAt_eq f_law_due
    b_law_due := (fdAt_eq (st := s_law_due) f_law_due).bindsN fun _ _ _ _ _ _ us hl => match us, hl with | [_, _, _, _], _ => rfl
    F_law_right := fdAt_eq f_law_right
    b_law_right := (fdAt_eq (st := s_law_right) f_law_right).bindsN fun _ _ _ _ _ _ us hl => match us, hl with | [_, _, _, _], _ => rfl
    F_law := fdAt_eq f_law
    b_law := (fdAt_eq (st := s_law) f_law).bindsN fun _ _ _ _ _ _ us hl => match us, hl with | [_], _ => rfl
    F_GameError_init := fdAt_eq f_GameError_init
    b_GameError_init := (fdAt_eq (st := s_GameError_init) f_GameError_init).bindsN fun _ _ _ _ _ _ us hl => match us, hl with | [_, _], _ => rfl
    g_is_whole := He.glo_ok X G (cd.fact 0 (f := .glo "is_whole") rfl)
    g_is_between := He.glo_ok X G (cd.fact 1 (f := .glo "is_between") rfl)
    g_ascends := He.glo_ok X G (cd.fact 2 (f := .glo "ascends") rfl)
    g_is_press := He.glo_ok X G (cd.fact 3 (f := .glo "is_press") rfl)
    g_is_behind := He.glo_ok X G (cd.fact 4 (f := .glo "is_behind") rfl)
    g_with_row := He.glo_ok X G (cd.fact 5 (f := .glo "with_row") rfl)
    g_ends_that_clash := He.glo_ok X G (cd.fact 6 (f := .glo "_ends_that_clash") rfl)
    g_is_known := He.glo_ok X G (cd.fact 7 (f := .glo "is_known") rfl)
    g_is_made := He.glo_ok X G (cd.fact 8 (f := .glo "_is_made") rfl)
    g_is_tick := He.glo_ok X G (cd.fact 9 (f := .glo "_is_tick") rfl)
    g_learned := He.glo_ok X G (cd.fact 10 (f := .glo "learned") rfl)
    g_need_known := He.glo_ok X G (cd.fact 11 (f := .glo "_need_known") rfl)
    g_need_tick := He.glo_ok X G (cd.fact 12 (f := .glo "_need_tick") rfl)
    g_law_deck := He.glo_ok X G (cd.fact 13 (f := .glo "_law_deck") rfl)
    g_law_draw := He.glo_ok X G (cd.fact 14 (f := .glo "_law_draw") rfl)
    g_law_same := He.glo_ok X G (cd.fact 15 (f := .glo "_law_same") rfl)
    g_law_known := He.glo_ok X G (cd.fact 16 (f := .glo "_law_known") rfl)
    g_law_press := He.glo_ok X G (cd.fact 17 (f := .glo "_law_press") rfl)
    g_law_letter := He.glo_ok X G (cd.fact 18 (f := .glo "_law_letter") rfl)
    g_law_due := He.glo_ok X G (cd.fact 19 (f := .glo "_law_due") rfl)
    g_law_right := He.glo_ok X G (cd.fact 20 (f := .glo "_law_right") rfl)
    g_law := He.glo_ok X G (cd.fact 21 (f := .glo "law") rfl)
    n_len := He.free_ok X G (cd.fact 22 (f := .free "len") rfl)
    n_int := He.free_ok X G (cd.fact 23 (f := .free "int") rfl)
    n_isinstance := He.free_ok X G (cd.fact 24 (f := .free "isinstance") rfl)
    n_range := He.free_ok X G (cd.fact 25 (f := .free "range") rfl)
    n_all := He.free_ok X G (cd.fact 26 (f := .free "all") rfl)
    n_min := He.free_ok X G (cd.fact 27 (f := .free "min") rfl)
    n_max := He.free_ok X G (cd.fact 28 (f := .free "max") rfl)
    n_bool := He.free_ok X G (cd.fact 29 (f := .free "bool") rfl)
    n_tuple := He.free_ok X G (cd.fact 30 (f := .free "tuple") rfl)
    n_list := He.free_ok X G (cd.fact 31 (f := .free "list") rfl)
    n_sorted := He.free_ok X G (cd.fact 32 (f := .free "sorted") rfl)
    n_zip := He.free_ok X G (cd.fact 33 (f := .free "zip") rfl)
    n_enumerate := He.free_ok X G (cd.fact 34 (f := .free "enumerate") rfl)
    n_ValueError := He.free_ok X G (cd.fact 35 (f := .free "ValueError") rfl)
    n_repr := He.free_ok X G (cd.fact 36 (f := .free "repr") rfl)
    n_abs := He.free_ok X G (cd.fact 37 (f := .free "abs") rfl)
    n_dict := He.free_ok X G (cd.fact 38 (f := .free "dict") rfl)
    c_MOST_PRESS := by
      obtain ⟨t, e⟩ := He.int_ok X G (cd.fact 39 (f := .int "MOST_PRESS" 63) rfl)
      exact ⟨_, e, ⟨t, rfl⟩⟩
    g_GameError := He.glo_ok X G (cd.fact 40 (f := .glo "GameError") rfl)
    g_InvalidPress := He.glo_ok X G (cd.fact 41 (f := .glo "InvalidPress") rfl)
    g_InvalidKnown := He.glo_ok X G (cd.fact 42 (f := .glo "InvalidKnown") rfl)
    g_InvalidTick := He.glo_ok X G (cd.fact 43 (f := .glo "InvalidTick") rfl)
    g_InvalidLetter := He.glo_ok X G (cd.fact 44 (f := .glo "InvalidLetter") rfl)
    g_Clash := He.glo_ok X G (cd.fact 45 (f := .glo "Clash") rfl)
    ex := x0
  }
end K47
set_option maxRecDepth 100000
set_option maxHeartbeats 2000000
/-! What is known, letters, what is learned: by lists alone. -/
namespace K47
open PySem PySem.Spec PyProof.Rows L2 KF
abbrev Rw := List (Int × Int)
structure Kn where
  row : Rw
  ends : Option Int
structure Lt where
  first : Int
  row : List Int
  ends : Option Int
def behind (e : Option Int) (t : Int) : Bool := match e with
  | some g => decide (g ≤ t)
  | none => false
def look (r : Rw) (t : Int) : Option Int := (r.find? fun e => decide (e.1 = t)).map (·.2)
def held (k : Kn) (t : Int) : Option Int := if behind k.ends t = true then some 0 else look k.row t
def keys (r : Rw) : List Int := r.map (·.1)
theorem look_mem {r : Rw} {t v : Int} (h : look r t = some v) : (t, v) ∈ r := by
  unfold look at h
  cases e : r.find? fun e => decide (e.1 = t) with
  | none => rw [e] at h; cases h
  | some q =>
    rw [e] at h
    have h1 := List.find?_some e
    have h2 := List.mem_of_find?_eq_some e
    obtain ⟨a, b⟩ := q
    have e1 : a = t := of_decide_eq_true h1
    have e2 : b = v := Option.some.inj h
    subst e1 e2
    exact h2
theorem look_none {r : Rw} {t : Int} (h : look r t = none) : t ∉ keys r := by
  intro hm
  obtain ⟨q, hq, e⟩ := List.mem_map.mp hm
  unfold look at h
  rw [Option.map_eq_none_iff, List.find?_eq_none] at h
  exact h q hq (decide_eq_true e)
theorem look_key {r : Rw} {t v : Int} (h : look r t = some v) : t ∈ keys r := List.mem_map.mpr ⟨_, look_mem h, rfl⟩
theorem look_of {r : Rw} {t v : Int} (nd : (keys r).Nodup) (h : (t, v) ∈ r) : look r t = some v := by
  cases e : look r t with
  | none => exact absurd (List.mem_map.mpr ⟨_, h, rfl⟩) (look_none e)
  | some u =>
    have hu := look_mem e
    induction r with
    | nil => cases h
    | cons q r ih =>
      have nd' : (q.1 :: keys r).Nodup := nd
      rw [List.nodup_cons] at nd'
      rcases List.mem_cons.mp h with h | h <;> rcases List.mem_cons.mp hu with hu | hu
      · rw [← h] at hu
        cases hu
        rfl
      · exact absurd (List.mem_map.mpr ⟨_, hu, by rw [← h]⟩) nd'.1
      · exact absurd (List.mem_map.mpr ⟨_, h, by rw [← hu]⟩) nd'.1
      · have hne : ¬ q.1 = t := fun z => nd'.1 (by rw [z]; exact List.mem_map.mpr ⟨_, h, rfl⟩)
        have e2 : look r t = some u := by
          unfold look at e ⊢
          rw [List.find?_cons_of_neg (by rw [decide_eq_true_eq]; exact hne)] at e
          exact e
        exact ih nd'.2 h e2 hu
theorem look_app {r s : Rw} {t : Int} : look (r ++ s) t = (look r t).or (look s t) := by
  unfold look
  rw [List.find?_append]
  cases r.find? fun e => decide (e.1 = t) <;> simp
theorem look_one {t u v : Int} : look [(u, v)] t = if u = t then some v else none := by
  unfold look
  by_cases e : u = t
  · rw [List.find?_cons_of_pos (by simp [e]), if_pos e]
    rfl
  · rw [List.find?_cons_of_neg (by simp [e]), if_neg e]
    rfl
/-! ### the program's way: what is not there yet is put behind -/
def setr (r : Rw) (t v : Int) : Rw := match look r t with
  | some _ => r
  | none => r ++ [(t, v)]
def addAll (r : Rw) (f : Int) : List Int → Rw
  | [] => r
  | p :: ps => addAll (setr r f p) (f + 1) ps
theorem addAll_snoc (r : Rw) (f : Int) (ps : List Int) (p : Int) : addAll r f (ps ++ [p]) = setr (addAll r f ps) (f + ps.length) p := by
  induction ps generalizing r f with
  | nil => simp [addAll]
  | cons q ps ih =>
    show addAll (setr r f q) (f + 1) (ps ++ [p]) = _
    rw [ih]
    have e : f + 1 + (ps.length : Int) = f + ((q :: ps).length : Int) := by rw [List.length_cons]; omega
    rw [e]
    rfl
theorem look_setr (r : Rw) (t v u : Int) : look (setr r t v) u = (look r u).or (if t = u then some v else none) := by
  unfold setr
  cases e : look r t with
  | some w =>
    by_cases h : t = u
    · subst h
      rw [e]
      rfl
    · rw [if_neg h]
      cases look r u <;> rfl
  | none =>
    show look (r ++ [(t, v)]) u = _
    rw [look_app, look_one]
theorem look_addAll (r : Rw) (f : Int) (ps : List Int) (u : Int) : look (addAll r f ps) u = (look r u).or (if f ≤ u then ps[(u - f).toNat]? else none) := by
  induction ps generalizing r f with
  | nil =>
    show look r u = _
    cases look r u <;> simp
  | cons p ps ih =>
    show look (addAll (setr r f p) (f + 1) ps) u = _
    rw [ih, look_setr]
    cases e : look r u with
    | some w => rfl
    | none =>
      by_cases h : f = u
      · subst h
        simp
      · rw [if_neg h]
        by_cases h2 : f ≤ u
        · rw [if_pos h2, if_pos (by omega)]
          have e2 : (u - f).toNat = (u - (f + 1)).toNat + 1 := by omega
          rw [e2]
          rfl
        · rw [if_neg h2, if_neg (by omega)]
          rfl
theorem nodup_setr {r : Rw} {t v : Int} (h : (keys r).Nodup) : (keys (setr r t v)).Nodup := by
  unfold setr
  cases e : look r t with
  | some w => exact h
  | none =>
    show (keys (r ++ [(t, v)])).Nodup
    unfold keys
    rw [List.map_append, List.nodup_append]
    refine ⟨h, by simp, fun a ha b hb e2 => look_none e ?_⟩
    rw [List.mem_map] at hb
    obtain ⟨q, hq, e3⟩ := hb
    rw [List.mem_singleton.mp hq] at e3
    rw [show t = a from e3.trans e2.symm]
    exact ha
theorem nodup_addAll {r : Rw} {f : Int} {ps : List Int} (h : (keys r).Nodup) : (keys (addAll r f ps)).Nodup := by
  induction ps generalizing r f with
  | nil => exact h
  | cons p ps ih => exact ih (nodup_setr h)
theorem len_setr (r : Rw) (t v : Int) : (setr r t v).length ≤ r.length + 1 := by
  unfold setr
  split
  · omega
  · rw [List.length_append]
    exact Nat.le_refl _
theorem len_addAll (r : Rw) (f : Int) (ps : List Int) : (addAll r f ps).length ≤ r.length + ps.length := by
  induction ps generalizing r f with
  | nil => exact Nat.le_refl _
  | cons p ps ih =>
    have h1 := ih (setr r f p) (f + 1)
    have h2 := len_setr r f p
    show (addAll (setr r f p) (f + 1) ps).length ≤ _
    rw [List.length_cons]
    omega
/-! ### the law's way: each is put -/
def putr (r : Rw) (t v : Int) : Rw := if (r.any fun e => decide (e.1 = t)) = true then r.map (fun e => if e.1 = t then (e.1, v) else e) else r ++ [(t, v)]
def putAll (r : Rw) (f : Int) : List Int → Rw
  | [] => r
  | p :: ps => putAll (putr r f p) (f + 1) ps
theorem putAll_snoc (r : Rw) (f : Int) (ps : List Int) (p : Int) : putAll r f (ps ++ [p]) = putr (putAll r f ps) (f + ps.length) p := by
  induction ps generalizing r f with
  | nil => simp [putAll]
  | cons q ps ih =>
    show putAll (putr r f q) (f + 1) (ps ++ [p]) = _
    rw [ih]
    have e : f + 1 + (ps.length : Int) = f + ((q :: ps).length : Int) := by rw [List.length_cons]; omega
    rw [e]
    rfl
theorem len_putr (r : Rw) (t v : Int) : (putr r t v).length ≤ r.length + 1 := by
  unfold putr
  split
  · rw [List.length_map]
    omega
  · rw [List.length_append]
    exact Nat.le_refl _
theorem len_putAll (r : Rw) (f : Int) (ps : List Int) : (putAll r f ps).length ≤ r.length + ps.length := by
  induction ps generalizing r f with
  | nil => exact Nat.le_refl _
  | cons p ps ih =>
    have h1 := ih (putr r f p) (f + 1)
    have h2 := len_putr r f p
    show (putAll (putr r f p) (f + 1) ps).length ≤ _
    rw [List.length_cons]
    omega
theorem putr_setr {r : Rw} {t v : Int} (nd : (keys r).Nodup) (h : ∀ u, look r t = some u → u = v) : putr r t v = setr r t v := by
  unfold putr setr
  cases e : look r t with
  | some w =>
    have hw := h w e
    subst hw
    have hm := look_mem e
    rw [if_pos (List.any_eq_true.mpr ⟨_, hm, decide_eq_true rfl⟩)]
    show r.map _ = r
    conv => rhs; rw [← List.map_id r]
    refine List.map_congr_left fun q hq => ?_
    split
    · rename_i h1
      have hq2 : (t, q.2) ∈ r := by rw [← h1]; exact hq
      have := look_of nd hq2
      rw [e] at this
      have e3 : w = q.2 := Option.some.inj this
      rw [e3]
      rfl
    · rfl
  | none =>
    have hn := look_none e
    rw [if_neg (by
      rw [List.any_eq_true]
      rintro ⟨q, hq, hd⟩
      exact hn (List.mem_map.mpr ⟨q, hq, of_decide_eq_true hd⟩))]
theorem putAll_addAll {r : Rw} {f : Int} {ps : List Int} (nd : (keys r).Nodup) (h : ∀ (j : Nat) p u, ps[j]? = some p → look r (f + j) = some u → u = p) : putAll r f ps = addAll r f ps := by
  induction ps generalizing r f with
  | nil => rfl
  | cons p ps ih =>
    have e : putr r f p = setr r f p := putr_setr nd fun u hu => h 0 p u rfl (by rw [show f + ((0 : Nat) : Int) = f from by omega]; exact hu)
    show putAll (putr r f p) (f + 1) ps = addAll (setr r f p) (f + 1) ps
    rw [e]
    refine ih (nodup_setr nd) fun j q u hq hu => ?_
    rw [look_setr, if_neg (by omega)] at hu
    have hu2 : look r (f + 1 + j) = some u := by
      cases e4 : look r (f + 1 + (j : Int)) with
      | none => rw [e4] at hu; cases hu
      | some z => rw [e4] at hu; exact hu
    refine h (j + 1) q u hq ?_
    rw [show f + ((j + 1 : Nat) : Int) = f + 1 + (j : Int) from by omega]
    exact hu2
/-! ### sorting -/
def srt (l : List Int) : List Int := l.mergeSort fun a b => decide (a ≤ b)
theorem srt_perm (l : List Int) : (srt l).Perm l := List.mergeSort_perm l _
theorem srt_sorted (l : List Int) : (srt l).Pairwise (· ≤ ·) := by
  have h := List.pairwise_mergeSort (le := fun a b : Int => decide (a ≤ b)) (fun a b c h1 h2 => by
    simp only [decide_eq_true_eq] at *
    omega) (fun a b => by
    simp only [Bool.or_eq_true, decide_eq_true_eq]
    omega) l
  exact h.imp fun {a b} h => of_decide_eq_true h
theorem sorted_eq : ∀ {l m : List Int}, l.Pairwise (· ≤ ·) → m.Pairwise (· ≤ ·) → l.Perm m → l = m
  | [], m, _, _, p => p.nil_eq
  | x :: l, [], _, _, p => by
    have := p.length_eq
    simp at this
  | x :: l, y :: m, h1, h2, p => by
    rw [List.pairwise_cons] at h1 h2
    have e : x = y := by
      have a : x ∈ y :: m := p.mem_iff.mp List.mem_cons_self
      have b : y ∈ x :: l := p.mem_iff.mpr List.mem_cons_self
      rcases List.mem_cons.mp a with a | a
      · exact a
      rcases List.mem_cons.mp b with b | b
      · exact b.symm
      have := h1.1 y b
      have := h2.1 x a
      omega
    subst e
    rw [sorted_eq h1.2 h2.2 (List.perm_cons x |>.mp p)]
theorem srt_of {l ys : List Int} (p : ys.Perm l) (h : ys.Pairwise (· ≤ ·)) : ys = srt l := sorted_eq h (srt_sorted l) (p.trans (srt_perm l).symm)
theorem asc_len : ∀ {l : List Int} {a b : Int}, l.Pairwise (· < ·) → (∀ x ∈ l, a ≤ x ∧ x < b) → (l.length : Int) ≤ b - a ∨ l = []
  | [], _, _, _, _ => .inr rfl
  | x :: l, a, b, h, hb => by
    rw [List.pairwise_cons] at h
    have hx := hb x List.mem_cons_self
    left
    rcases asc_len (a := x + 1) (b := b) h.2 (fun y hy => ⟨by have := h.1 y hy; omega, (hb y (List.mem_cons_of_mem _ hy)).2⟩) with q | q
    · rw [List.length_cons]
      omega
    · rw [q]
      simp
      omega
/-! ### what is right -/
structure Kn.ok (k : Kn) : Prop where
  asc : (keys k.row).Pairwise (· < ·)
  rng : ∀ q ∈ k.row, 0 ≤ q.1 ∧ q.1 < 1000 ∧ 0 ≤ q.2 ∧ q.2 ≤ 63
  ends : ∀ g, k.ends = some g → 0 ≤ g ∧ g ≤ 1000 ∧ ∀ q ∈ k.row, q.1 < g
structure Lt.ok (l : Lt) : Prop where
  first : 0 ≤ l.first ∧ l.first ≤ 400
  len : l.row.length ≤ 32
  top : l.first + l.row.length ≤ 400
  rng : ∀ p ∈ l.row, 0 ≤ p ∧ p ≤ 63
  ends : ∀ e, l.ends = some e → l.first + l.row.length ≤ e ∧ e ≤ 400
theorem Kn.ok.nd {k : Kn} (h : k.ok) : (keys k.row).Nodup := h.asc.imp fun {a b} z => Int.ne_of_lt z
theorem Kn.ok.len {k : Kn} (h : k.ok) : k.row.length ≤ 1000 := by
  have e : (keys k.row).length = k.row.length := List.length_map _
  rcases asc_len (a := 0) (b := 1000) h.asc (fun x hx => by
    obtain ⟨q, hq, e⟩ := List.mem_map.mp hx
    have := h.rng q hq
    rw [← e]
    exact ⟨this.1, this.2.1⟩) with q | q
  · rw [e] at q
    omega
  · rw [← e, q]
    exact Nat.zero_le _
def ende (k : Kn) (l : Lt) : Option Int := match k.ends with
  | some g => some g
  | none => l.ends
def all (k : Kn) (l : Lt) : Rw := addAll k.row l.first l.row
def lrn (k : Kn) (l : Lt) : Kn := ⟨((srt (keys (all k l))).filter fun t => !behind (ende k l) t).map fun t => (t, (look (all k l) t).getD 0), ende k l⟩
def BadP (k : Kn) (l : Lt) (x : Int) : Prop := (∃ (j : Nat) (p h : Int), l.row[j]? = some p ∧ x = l.first + j ∧ held k x = some h ∧ h ≠ p) ∨
  (∃ e, l.ends = some e ∧ ((∃ p, (x, p) ∈ k.row ∧ e ≤ x ∧ p ≠ 0) ∨ ∃ g, k.ends = some g ∧ g ≠ e ∧ x = min g e))
def ClP (k : Kn) (l : Lt) (x : Int) : Prop := (∃ g e, k.ends = some g ∧ l.ends = some e ∧ g ≠ e ∧ x = min g e) ∨ (∃ (j : Nat) (p h : Int), l.row[j]? = some p ∧ x = l.first + j ∧ look k.row x = some h ∧ h ≠ p) ∨
  (behind (ende k l) x = true ∧ ∃ v, look (all k l) x = some v ∧ v ≠ 0)
theorem key_look {r : Rw} {t : Int} (h : t ∈ keys r) : ∃ v, look r t = some v := by
  cases e : look r t with
  | none => exact absurd h (look_none e)
  | some v => exact ⟨v, rfl⟩
def C1 (k : Kn) (l : Lt) (x : Int) : Prop := ∃ g e, k.ends = some g ∧ l.ends = some e ∧ g ≠ e ∧ x = min g e
def C2 (k : Kn) (l : Lt) (n : Nat) (x : Int) : Prop := ∃ (j : Nat) (p h : Int), j < n ∧ l.row[j]? = some p ∧ x = l.first + j ∧ look k.row x = some h ∧ h ≠ p
def C3 (k : Kn) (l : Lt) (t : Int) : Bool := behind (ende k l) t && !decide ((look (all k l) t).getD 0 = 0)
def csE : Option Int → Option Int → List Int
  | some x, some y => if x = y then [] else [min x y]
  | _, _ => []
def cs0 (k : Kn) (l : Lt) : List Int := csE k.ends l.ends
theorem cs0_iff (k : Kn) (l : Lt) (x : Int) : x ∈ cs0 k l ↔ C1 k l x ∨ C2 k l 0 x := by
  have n2 : ¬ C2 k l 0 x := fun ⟨j, _, _, h, _⟩ => absurd h (by omega)
  unfold cs0 C1 csE
  cases k.ends with
  | none => simp [n2]
  | some g =>
    cases l.ends with
    | none => simp [n2]
    | some e =>
      by_cases h : g = e
      · simp [h, n2]
      · simp [h, n2]
theorem cs0_len (k : Kn) (l : Lt) : (cs0 k l).length ≤ 1 := by
  unfold cs0 csE
  split
  · split <;> simp
  · simp
theorem c2_step {k : Kn} {l : Lt} {i : Nat} {p : Int} (hp : l.row[i]? = some p) (x : Int) : C2 k l (i + 1) x ↔ C2 k l i x ∨ (x = l.first + i ∧ ∃ h, look k.row x = some h ∧ h ≠ p) := by
  constructor
  · rintro ⟨j, q, h, h1, h2, h3, h4, h5⟩
    by_cases e : j = i
    · subst e
      rw [hp] at h2
      cases h2
      exact .inr ⟨h3, h, h4, h5⟩
    · exact .inl ⟨j, q, h, by omega, h2, h3, h4, h5⟩
  · rintro (⟨j, q, h, h1, h2, h3, h4, h5⟩ | ⟨h3, h, h4, h5⟩)
    · exact ⟨j, q, h, by omega, h2, h3, h4, h5⟩
    · exact ⟨i, p, h, by omega, hp, h3, h4, h5⟩
theorem look_take {k : Kn} {l : Lt} (i : Nat) : look (addAll k.row l.first (l.row.take i)) (l.first + i) = look k.row (l.first + i) := by
  rw [look_addAll]
  have : (l.row.take i)[(l.first + (i : Int) - l.first).toNat]? = none := List.getElem?_eq_none (by rw [List.length_take]; omega)
  rw [this]
  cases look k.row (l.first + i) <;> simp
theorem cl_iff {k : Kn} {l : Lt} (x : Int) : ClP k l x ↔ (C1 k l x ∨ C2 k l l.row.length x) ∨ (x ∈ keys (all k l) ∧ C3 k l x = true) := by
  unfold ClP C3
  constructor
  · rintro (h | ⟨j, p, h, h1, h2, h3, h4⟩ | ⟨h1, v, h2, h3⟩)
    · exact .inl (.inl h)
    · exact .inl (.inr ⟨j, p, h, (List.getElem?_eq_some_iff.mp h1).1, h1, h2, h3, h4⟩)
    · exact .inr ⟨look_key h2, by rw [h1, h2]; simpa using h3⟩
  · rintro ((h | ⟨j, p, h, h0, h1, h2, h3, h4⟩) | ⟨h1, h2⟩)
    · exact .inl h
    · exact .inr (.inl ⟨j, p, h, h1, h2, h3, h4⟩)
    · obtain ⟨a, b⟩ := Bool.and_eq_true_iff.mp h2
      obtain ⟨v, hv⟩ := key_look h1
      rw [hv] at b
      exact .inr (.inr ⟨a, v, hv, by simpa using b⟩)
theorem all_cases {k : Kn} {l : Lt} {t v : Int} (h : look (all k l) t = some v) : look k.row t = some v ∨ (look k.row t = none ∧ ∃ j : Nat, l.row[j]? = some v ∧ t = l.first + j) := by
  unfold all at h
  rw [look_addAll] at h
  cases e : look k.row t with
  | some u =>
    rw [e] at h
    exact .inl h
  | none =>
    rw [e] at h
    right
    refine ⟨rfl, (t - l.first).toNat, ?_⟩
    by_cases h2 : l.first ≤ t
    · rw [if_pos h2] at h
      exact ⟨h, by omega⟩
    · rw [if_neg h2] at h
      cases h
theorem all_of {k : Kn} {l : Lt} {t v : Int} (h : look k.row t = some v) : look (all k l) t = some v := by
  unfold all
  rw [look_addAll, h]
  rfl
theorem all_new {k : Kn} {l : Lt} {j : Nat} {v : Int} (h : look k.row (l.first + j) = none) (hj : l.row[j]? = some v) : look (all k l) (l.first + j) = some v := by
  unfold all
  rw [look_addAll, h, if_pos (by omega), show (l.first + (j : Int) - l.first).toNat = j by omega, hj]
  rfl
theorem notBehind {k : Kn} (ok : k.ok) {t v : Int} (h : look k.row t = some v) : behind k.ends t = false := by
  unfold behind
  cases e : k.ends with
  | none => rfl
  | some g =>
    have := (ok.ends g e).2.2 _ (look_mem h)
    exact decide_eq_false (by show ¬ g ≤ t; have : t < g := this; omega)
theorem held_of {k : Kn} (ok : k.ok) {t v : Int} (h : look k.row t = some v) : held k t = some v := by
  unfold held
  rw [notBehind ok h]
  exact h
def B1 (k : Kn) (l : Lt) (n : Nat) (x : Int) : Prop := ∃ (j : Nat) (p h : Int), j < n ∧ l.row[j]? = some p ∧ x = l.first + j ∧ held k x = some h ∧ h ≠ p
theorem b1_step {k : Kn} {l : Lt} {i : Nat} {p : Int} (hp : l.row[i]? = some p) (x : Int) : B1 k l (i + 1) x ↔ B1 k l i x ∨ (x = l.first + i ∧ ∃ h, held k x = some h ∧ h ≠ p) := by
  constructor
  · rintro ⟨j, q, h, h1, h2, h3, h4, h5⟩
    by_cases e : j = i
    · subst e
      rw [hp] at h2
      cases h2
      exact .inr ⟨h3, h, h4, h5⟩
    · exact .inl ⟨j, q, h, by omega, h2, h3, h4, h5⟩
  · rintro (⟨j, q, h, h1, h2, h3, h4, h5⟩ | ⟨h3, h, h4, h5⟩)
    · exact ⟨j, q, h, by omega, h2, h3, h4, h5⟩
    · exact ⟨i, p, h, by omega, hp, h3, h4, h5⟩
theorem b1_zero {k : Kn} {l : Lt} (x : Int) : ¬ B1 k l 0 x := fun ⟨j, _, _, h, _⟩ => absurd h (by omega)
theorem bad_iff {k : Kn} {l : Lt} (x : Int) : BadP k l x ↔ B1 k l l.row.length x ∨ (∃ e, l.ends = some e ∧ ((∃ p, (x, p) ∈ k.row ∧ e ≤ x ∧ p ≠ 0) ∨ ∃ g, k.ends = some g ∧ g ≠ e ∧ x = min g e)) := by
  unfold BadP B1
  constructor
  · rintro (⟨j, p, h, h1, h2, h3, h4⟩ | h)
    · exact .inl ⟨j, p, h, (List.getElem?_eq_some_iff.mp h1).1, h1, h2, h3, h4⟩
    · exact .inr h
  · rintro (⟨j, p, h, h0, h1, h2, h3, h4⟩ | h)
    · exact .inl ⟨j, p, h, h1, h2, h3, h4⟩
    · exact .inr h
theorem cl_bad {k : Kn} {l : Lt} (ok : k.ok) (lo : l.ok) {x : Int} (h : ClP k l x) : ∃ y, BadP k l y ∧ y ≤ x := by
  rcases h with ⟨g, e, h1, h2, h3, h4⟩ | ⟨j, p, h, h1, h2, h3, h4⟩ | ⟨h1, v, h2, h3⟩
  · exact ⟨x, .inr ⟨e, h2, .inr ⟨g, h1, h3, h4⟩⟩, Int.le_refl _⟩
  · exact ⟨x, .inl ⟨j, p, h, h1, h2, held_of ok h3, h4⟩, Int.le_refl _⟩
  · refine ⟨x, ?_, Int.le_refl _⟩
    unfold ende at h1
    cases hg : k.ends with
    | some g =>
      rw [hg] at h1
      have hb : behind k.ends x = true := by rw [hg]; exact h1
      rcases all_cases h2 with q | ⟨q, j, hj, e⟩
      · rw [notBehind ok q] at hb
        cases hb
      · exact .inl ⟨j, v, 0, hj, e, by unfold held; rw [if_pos hb], fun z => h3 z.symm⟩
    | none =>
      rw [hg] at h1
      cases he : l.ends with
      | none => rw [he] at h1; cases h1
      | some e =>
        rw [he] at h1
        have hx : e ≤ x := of_decide_eq_true h1
        rcases all_cases h2 with q | ⟨q, j, hj, e2⟩
        · exact .inr ⟨e, he, .inl ⟨v, look_mem q, hx, h3⟩⟩
        · have := (lo.ends e he).1
          have := (List.getElem?_eq_some_iff.mp hj).1
          omega
theorem bad_cl {k : Kn} {l : Lt} (ok : k.ok) (lo : l.ok) {x : Int} (h : BadP k l x) : ∃ y, ClP k l y ∧ y ≤ x := by
  rcases h with ⟨j, p, h, h1, h2, h3, h4⟩ | ⟨e, he, ⟨p, h1, h2, h3⟩ | ⟨g, h1, h2, h3⟩⟩
  · refine ⟨x, ?_, Int.le_refl _⟩
    unfold held at h3
    by_cases hb : behind k.ends x = true
    · rw [if_pos hb] at h3
      have h0 : h = 0 := (Option.some.inj h3).symm
      subst h0
      have hn : look k.row x = none := by
        cases e : look k.row x with
        | none => rfl
        | some u => rw [notBehind ok e] at hb; cases hb
      subst h2
      refine .inr (.inr ⟨?_, p, all_new hn h1, fun z => h4 z.symm⟩)
      unfold ende
      cases hg : k.ends with
      | none => rw [hg] at hb; cases hb
      | some g => rw [hg] at hb; exact hb
    · rw [if_neg hb] at h3
      exact .inr (.inl ⟨j, p, h, h1, h2, h3, h4⟩)
  · cases hg : k.ends with
    | none =>
      refine ⟨x, .inr (.inr ⟨?_, p, all_of (look_of ok.nd h1), h3⟩), Int.le_refl _⟩
      unfold ende
      rw [hg, he]
      exact decide_eq_true h2
    | some g =>
      have hx : x < g := (ok.ends g hg).2.2 _ h1
      exact ⟨min g e, .inl ⟨g, e, hg, he, by omega, rfl⟩, by omega⟩
  · exact ⟨x, .inl ⟨g, e, h1, he, h2, h3⟩, Int.le_refl _⟩
theorem clp_rng {k : Kn} {l : Lt} (ok : k.ok) (lo : l.ok) {x : Int} (h : ClP k l x) : 0 ≤ x ∧ x ≤ 1000 := by
  rcases h with ⟨g, e, h1, h2, h3, h4⟩ | ⟨j, p, h, h1, h2, h3, h4⟩ | ⟨h1, v, h2, h3⟩
  · have := ok.ends g h1
    have := lo.ends e h2
    have := lo.first
    omega
  · have := ok.rng _ (look_mem h3)
    have h5 : 0 ≤ x ∧ x < 1000 := ⟨this.1, this.2.1⟩
    omega
  · rcases all_cases h2 with q | ⟨_, j, hj, e⟩
    · have := ok.rng _ (look_mem q)
      have h5 : 0 ≤ x ∧ x < 1000 := ⟨this.1, this.2.1⟩
      omega
    · have h5 := (List.getElem?_eq_some_iff.mp hj).1
      have h6 := lo.first
      have h7 := lo.top
      omega
theorem mins_eq {k : Kn} {l : Lt} (ok : k.ok) (lo : l.ok) {m n : Int} (hm : BadP k l m) (hm2 : ∀ x, BadP k l x → m ≤ x) (hn : ClP k l n) (hn2 : ∀ x, ClP k l x → n ≤ x) : m = n := by
  obtain ⟨y, hy, h1⟩ := bad_cl ok lo hm
  obtain ⟨z, hz, h2⟩ := cl_bad ok lo hn
  have := hn2 y hy
  have := hm2 z hz
  omega
theorem good_put {k : Kn} {l : Lt} (ok : k.ok) (h : ∀ x, ¬ BadP k l x) : putAll k.row l.first l.row = all k l :=
  putAll_addAll ok.nd fun j p u hp hu => by
    by_cases e : u = p
    · exact e
    · exact absurd (.inl ⟨j, p, u, hp, rfl, held_of ok hu, e⟩) (h _)
theorem keys_all_rng {k : Kn} {l : Lt} (ok : k.ok) (lo : l.ok) {t v : Int} (h : look (all k l) t = some v) : 0 ≤ t ∧ t < 1000 ∧ 0 ≤ v ∧ v ≤ 63 := by
  rcases all_cases h with q | ⟨_, j, hj, e⟩
  · exact ok.rng _ (look_mem q)
  · have h1 := (List.getElem?_eq_some_iff.mp hj).1
    have h2 := lo.rng v (List.mem_of_getElem? hj)
    have h3 := lo.first
    have h4 := lo.top
    omega
theorem nd_all {k : Kn} (l : Lt) (ok : k.ok) : (keys (all k l)).Nodup := nodup_addAll ok.nd
theorem lrn_keys (k : Kn) (l : Lt) : keys (lrn k l).row = (srt (keys (all k l))).filter fun t => !behind (ende k l) t := by
  unfold keys lrn
  rw [List.map_map]
  exact List.map_id _
theorem lrn_ok {k : Kn} {l : Lt} (ok : k.ok) (lo : l.ok) : (lrn k l).ok := by
  have hmem : ∀ q ∈ (lrn k l).row, look (all k l) q.1 = some q.2 ∧ behind (ende k l) q.1 = false := fun q hq => by
    obtain ⟨t, ht, e⟩ := List.mem_map.mp hq
    obtain ⟨h1, h2⟩ := List.mem_filter.mp ht
    obtain ⟨v, hv⟩ := key_look ((srt_perm _).mem_iff.mp h1)
    rw [← e, hv]
    exact ⟨rfl, by simpa using h2⟩
  refine ⟨?_, fun q hq => keys_all_rng ok lo (hmem q hq).1, fun g hg => ?_⟩
  · rw [lrn_keys]
    refine List.Pairwise.filter _ ?_
    have nd : (srt (keys (all k l))).Nodup := (srt_perm _).nodup_iff.mpr (nd_all l ok)
    exact (srt_sorted _).imp₂ (fun a b h1 h2 => by omega) nd
  · have hg2 : ende k l = some g := hg
    refine ⟨?_, ?_, fun q hq => ?_⟩
    · unfold ende at hg2
      cases e : k.ends with
      | some g2 => rw [e] at hg2; cases hg2; exact (ok.ends g e).1
      | none => rw [e] at hg2; have := lo.ends g hg2; have := lo.first; omega
    · unfold ende at hg2
      cases e : k.ends with
      | some g2 => rw [e] at hg2; cases hg2; exact (ok.ends g e).2.1
      | none => rw [e] at hg2; have := lo.ends g hg2; omega
    · have := (hmem q hq).2
      rw [hg2] at this
      have h2 : ¬ g ≤ q.1 := of_decide_eq_false this
      omega
/-! ### letters that say nothing new -/
def Cons (k : Kn) (l : Lt) : Prop := (∀ (j : Nat) p, l.row[j]? = some p → held k (l.first + j) = some p) ∧ (l.ends = none ∨ l.ends = k.ends)
theorem look_lrn {k : Kn} {l : Lt} (ok : k.ok) {t v : Int} (h : look (all k l) t = some v) (hb : behind (ende k l) t = false) (lo : l.ok) : look (lrn k l).row t = some v := by
  refine look_of (lrn_ok ok lo).nd (List.mem_map.mpr ⟨t, List.mem_filter.mpr ⟨(srt_perm _).mem_iff.mpr (look_key h), by simp [hb]⟩, by rw [h]; rfl⟩)
theorem held_lrn {k : Kn} {l : Lt} (ok : k.ok) (lo : l.ok) (good : ∀ x, ¬ BadP k l x) {t h : Int} (hh : held k t = some h) : held (lrn k l) t = some h := by
  unfold held at hh
  have e0 : (lrn k l).ends = ende k l := rfl
  by_cases hb : behind k.ends t = true
  · rw [if_pos hb] at hh
    unfold held
    rw [e0]
    have : behind (ende k l) t = true := by
      unfold ende
      cases hg : k.ends with
      | none => rw [hg] at hb; cases hb
      | some g => rw [hg] at hb; exact hb
    rw [if_pos this]
    exact hh
  · rw [if_neg hb] at hh
    unfold held
    rw [e0]
    by_cases h2 : behind (ende k l) t = true
    · rw [if_pos h2]
      by_cases h0 : h = 0
      · rw [h0]
      · exfalso
        unfold ende at h2
        cases hg : k.ends with
        | some g => rw [hg] at h2 hb; exact hb h2
        | none =>
          rw [hg] at h2
          cases he : l.ends with
          | none => rw [he] at h2; cases h2
          | some e =>
            rw [he] at h2
            exact good t (.inr ⟨e, he, .inl ⟨h, look_mem hh, of_decide_eq_true h2, h0⟩⟩)
    · rw [if_neg h2]
      exact look_lrn ok (all_of hh) (by simpa using h2) lo
theorem cons_keep {k : Kn} {l m : Lt} (ok : k.ok) (lo : l.ok) (good : ∀ x, ¬ BadP k l x) (h : Cons k m) : Cons (lrn k l) m := by
  refine ⟨fun j p hp => held_lrn ok lo good (h.1 j p hp), ?_⟩
  rcases h.2 with e | e
  · exact .inl e
  · cases hg : k.ends with
    | none => exact .inl (by rw [e, hg])
    | some g =>
      right
      rw [e]
      show k.ends = ende k l
      unfold ende
      rw [hg]
theorem cons_new {k : Kn} {l : Lt} (ok : k.ok) (lo : l.ok) (good : ∀ x, ¬ BadP k l x) : Cons (lrn k l) l := by
  refine ⟨fun j p hp => ?_, ?_⟩
  · cases hh : held k (l.first + j) with
    | some h =>
      have e : h = p := by
        by_cases e : h = p
        · exact e
        · exact absurd (.inl ⟨j, p, h, hp, rfl, hh, e⟩) (good _)
      rw [held_lrn ok lo good hh, e]
    | none =>
      unfold held at hh
      by_cases hb : behind k.ends (l.first + j) = true
      · rw [if_pos hb] at hh
        cases hh
      · rw [if_neg hb] at hh
        have h1 := all_new hh hp
        have h2 : behind (ende k l) (l.first + j) = false := by
          unfold ende
          cases hg : k.ends with
          | some g => rw [hg] at hb; simpa using hb
          | none =>
            cases he : l.ends with
            | none => rfl
            | some e =>
              have := (lo.ends e he).1
              have := (List.getElem?_eq_some_iff.mp hp).1
              exact decide_eq_false (by omega)
        unfold held
        rw [show (lrn k l).ends = ende k l from rfl, if_neg (by rw [h2]; exact Bool.false_ne_true)]
        exact look_lrn ok h1 h2 lo
  · cases he : l.ends with
    | none => exact .inl rfl
    | some e =>
      right
      show some e = ende k l
      unfold ende
      cases hg : k.ends with
      | none => exact he.symm
      | some g =>
        by_cases q : g = e
        · rw [q]
        · exact absurd (.inr ⟨e, he, .inr ⟨g, hg, q, rfl⟩⟩) (good (min g e))
theorem cons_good {k : Kn} {l : Lt} (ok : k.ok) (h : Cons k l) : ∀ x, ¬ BadP k l x := by
  rintro x (⟨j, p, v, h1, h2, h3, h4⟩ | ⟨e, he, ⟨p, h1, h2, h3⟩ | ⟨g, h1, h2, h3⟩⟩)
  · rw [h2] at h3
    rw [h.1 j p h1] at h3
    exact h4 (Option.some.inj h3).symm
  · rcases h.2 with q | q
    · rw [q] at he; cases he
    · rw [he] at q
      have : x < e := (ok.ends e q.symm).2.2 _ h1
      omega
  · rcases h.2 with q | q
    · rw [q] at he; cases he
    · rw [he, h1] at q
      exact h2 (Option.some.inj q).symm
theorem filter_eq {α : Type} {p : α → Bool} {l : List α} (h : ∀ x ∈ l, p x = true) : l.filter p = l := List.filter_eq_self.mpr h
theorem cons_same {k : Kn} {l : Lt} (ok : k.ok) (lo : l.ok) (h : Cons k l) : lrn k l = k := by
  have hE : ende k l = k.ends := by
    unfold ende
    cases hg : k.ends with
    | some g => rfl
    | none =>
      rcases h.2 with q | q
      · exact q
      · rw [q, hg]
  have nb : ∀ t, t ∈ keys (all k l) → behind k.ends t = false → look k.row t = look (all k l) t ∧ t ∈ keys k.row := fun t ht hb => by
    obtain ⟨v, hv⟩ := key_look ht
    rcases all_cases hv with q | ⟨q, j, hj, e⟩
    · rw [q, hv]
      exact ⟨rfl, look_key q⟩
    · have := h.1 j v hj
      unfold held at this
      rw [← e, hb, if_neg Bool.false_ne_true, q] at this
      cases this
  have ek : keys (lrn k l).row = keys k.row := by
    refine sorted_eq ?_ (ok.asc.imp fun {a b} z => Int.le_of_lt z) ?_
    · exact (lrn_ok ok lo).asc.imp fun {a b} z => Int.le_of_lt z
    · have nd1 := (lrn_ok ok lo).nd
      have nd2 := ok.nd
      refine (List.perm_ext_iff_of_nodup nd1 nd2).mpr fun t => ?_
      rw [lrn_keys, List.mem_filter, (srt_perm _).mem_iff, hE]
      refine ⟨fun ⟨h1, h2⟩ => (nb t h1 (by simpa using h2)).2, fun ht => ?_⟩
      obtain ⟨v, hv⟩ := key_look ht
      exact ⟨look_key (all_of hv), by simp [notBehind ok hv]⟩
  have er : (lrn k l).row = k.row := by
    have e1 : (lrn k l).row = (keys (lrn k l).row).map fun t => (t, (look (all k l) t).getD 0) := by
      rw [lrn_keys]
      rfl
    rw [e1, ek]
    unfold keys
    rw [List.map_map]
    conv => rhs; rw [← List.map_id k.row]
    refine List.map_congr_left fun q hq => ?_
    have := all_of (l := l) (look_of ok.nd (show (q.1, q.2) ∈ k.row from hq))
    show (q.1, (look (all k l) q.1).getD 0) = q
    rw [this]
    rfl
  have : lrn k l = ⟨(lrn k l).row, (lrn k l).ends⟩ := rfl
  rw [this, er, show (lrn k l).ends = ende k l from rfl, hE]
end K47
set_option maxRecDepth 100000
set_option maxHeartbeats 2000000
/-! The program's way of learning. -/
namespace K47
open PySem PySem.Spec PyProof.Rows L2 KF KD
def ov : Option Int → V
  | none => .non
  | some n => .int n
/-- what is known, as it stands in the heap -/
def KnH (K : PySem.W.Frag) (H : Hp) (v : V) (k : Kn) : Prop := ∃ (t r : Addr) (ps : List Addr), v = .ref t ∧ SqT K H t [.ref r, ov k.ends] ∧ FzT H r (ps.map V.ref) ∧ Paired (fun p (e : Int × Int) => SqT K H p [.int e.1, .int e.2]) ps k.row
section
variable {P : Program} {w : World} {K : PySem.W.Frag} {mg : Str → Option Value} {base : Heap}
theorem nf' {b : Bool} (h : b = false) : ¬ b = true := by rw [h]; decide
def spWhole : Sp := fun vs H Q _ => ∃ n : Int, vs = [.int n] ∧ Q (.bl true) H
theorem scWh : FnScope ["told"] ["told"] (defScope s_is_whole) := ⟨rfl, rfl, rfl, by decide +kernel, rfl, by decide +kernel, by decide +kernel⟩
theorem ok_is_whole (T : Txt K w mg) : FnOk P w K mg base CX0 1 (He.fAd K ("is_whole", none)) (fdAt K (He.fAd K ("is_whole", none))) ["told"] spWhole := by
  refine T.F_is_whole.ok scWh (fun vs H Q E h => ?_) (fun cdv A outer s H vs Q E hr h => ?_)
  · obtain ⟨n, rfl, _⟩ := h
    rfl
  · obtain ⟨n, rfl, q⟩ := h
    refine ⟨_, PSs.nox (pss_one (ps_ret (pe_and (pe_callB (r := rIsi K) call_isi (by rfl) T.n_isinstance PyProof.Rows.Boot.«isinstance» (pa_cons (pv 0) (pa_cons (pe_bltn (v := .ty "int") (by rfl) T.n_int PyProof.Rows.Boot.«int» rfl) pa_nil))) (pe_one (pe_not (pe_callB (r := rIsi K) call_isi (by rfl) T.n_isinstance PyProof.Rows.Boot.«isinstance» (pa_cons (pv 0) (pa_cons (pe_bltn (v := .ty "bool") (by rfl) T.n_bool PyProof.Rows.Boot.«bool» rfl) pa_nil)))))))), ?_⟩
    refine ⟨_, rfl, _, _, _, _, _, rfl, .ty "int", .base (.int n), kit_ty (r := true) (by decide +kernel), _, rfl, iteT ?_⟩
    exact ⟨_, rfl, _, _, _, _, _, rfl, .ty "bool", .base (.int n), kit_ty (r := false) (by decide +kernel), _, rfl, q⟩
def spBetween : Sp := fun vs H Q _ => ∃ n lo hi : Int, vs = [.int n, .int lo, .int hi] ∧ lo ≤ n ∧ n ≤ hi ∧ Q (.bl true) H
theorem scBe : FnScope ["told", "low", "high"] ["told", "low", "high"] (defScope s_is_between) := ⟨rfl, rfl, rfl, by decide +kernel, rfl, by decide +kernel, by decide +kernel⟩
theorem ok_is_between (T : Txt K w mg) : FnOk P w K mg base CX0 2 (He.fAd K ("is_between", none)) (fdAt K (He.fAd K ("is_between", none))) ["told", "low", "high"] spBetween := by
  refine T.F_is_between.ok scBe (fun vs H Q E h => ?_) (fun cdv A outer s H vs Q E hr h => ?_)
  · obtain ⟨n, lo, hi, rfl, _⟩ := h
    rfl
  · obtain ⟨n, lo, hi, rfl, h1, h2, q⟩ := h
    refine ⟨_, PSs.nox (pss_one (ps_ret (pe_and (pe_call (ok_is_whole T) (hr.mono (by decide)) (by rfl) T.g_is_whole (T.F_is_whole).kp T.b_is_whole .nil pass0 (pa_cons (pv 0) pa_nil)) (pe_one (pe_chain op_le op_le (pv 1) (pv 0) (pv 2)))))), ?_⟩
    refine ⟨_, rfl, n, rfl, _, rfl, iteT ?_⟩
    refine ⟨_, rfl, _, rfl, _, _, rfl, rfl, _, rfl, ite2 (fun _ => ?_) (fun z => absurd (decide_eq_true h1) z)⟩
    refine ⟨_, rfl, _, _, rfl, rfl, ?_⟩
    show Q (V.bl (decide (n ≤ hi))) H
    rw [decide_eq_true h2]
    exact q
def spPress : Sp := fun vs H Q _ => ∃ n : Int, vs = [.int n] ∧ 0 ≤ n ∧ n ≤ 63 ∧ Q (.bl true) H
theorem scPr : FnScope ["told"] ["told"] (defScope s_is_press) := ⟨rfl, rfl, rfl, by decide +kernel, rfl, by decide +kernel, by decide +kernel⟩
theorem ok_is_press (T : Txt K w mg) : FnOk P w K mg base CX0 3 (He.fAd K ("is_press", none)) (fdAt K (He.fAd K ("is_press", none))) ["told"] spPress := by
  obtain ⟨uM, gM, rM⟩ := T.c_MOST_PRESS
  refine T.F_is_press.ok scPr (fun vs H Q E h => ?_) (fun cdv A outer s H vs Q E hr h => ?_)
  · obtain ⟨n, rfl, _⟩ := h
    rfl
  · obtain ⟨n, rfl, h1, h2, q⟩ := h
    refine ⟨_, PSs.nox (pss_one (ps_ret (pe_call (ok_is_between T) (hr.mono (by decide)) (by rfl) T.g_is_between (T.F_is_between).kp T.b_is_between .nil pass0 (pa_cons (pv 0) (pa_cons pe_int (pa_cons (pe_glob (v := .int 63) (by rfl) gM rM) pa_nil)))))), ?_⟩
    exact ⟨_, rfl, n, 0, 63, rfl, h1, h2, q⟩
def spTick : Sp := fun vs H Q _ => ∃ n : Int, vs = [.int n] ∧ 0 ≤ n ∧ Q (.bl true) H
theorem scTk : FnScope ["told"] ["told"] (defScope s_is_tick) := ⟨rfl, rfl, rfl, by decide +kernel, rfl, by decide +kernel, by decide +kernel⟩
theorem ok_is_tick (T : Txt K w mg) : FnOk P w K mg base CX0 2 (He.fAd K ("_is_tick", none)) (fdAt K (He.fAd K ("_is_tick", none))) ["told"] spTick := by
  refine T.F_is_tick.ok scTk (fun vs H Q E h => ?_) (fun cdv A outer s H vs Q E hr h => ?_)
  · obtain ⟨n, rfl, _⟩ := h
    rfl
  · obtain ⟨n, rfl, h1, q⟩ := h
    refine ⟨_, PSs.nox (pss_one (ps_ret (pe_and (pe_call (ok_is_whole T) (hr.mono (by decide)) (by rfl) T.g_is_whole (T.F_is_whole).kp T.b_is_whole .nil pass0 (pa_cons (pv 0) pa_nil)) (pe_one (pe_cmpR op_ge (pv 0) pe_int (nomark _)))))), ?_⟩
    refine ⟨_, rfl, n, rfl, _, rfl, iteT ?_⟩
    refine ⟨_, rfl, _, _, rfl, rfl, ?_⟩
    show Q (V.bl (decide (n ≥ 0))) H
    rw [decide_eq_true h1]
    exact q
def spBehind : Sp := fun vs H Q _ => ∃ (n : Int) (e : Option Int), vs = [.int n, ov e] ∧ Q (.bl (behind e n)) H
theorem scBh : FnScope ["tick", "ends"] ["tick", "ends"] (defScope s_is_behind) := ⟨rfl, rfl, rfl, by decide +kernel, rfl, by decide +kernel, by decide +kernel⟩
theorem ok_is_behind (T : Txt K w mg) : FnOk P w K mg base CX0 1 (He.fAd K ("is_behind", none)) (fdAt K (He.fAd K ("is_behind", none))) ["tick", "ends"] spBehind := by
  refine T.F_is_behind.ok scBh (fun vs H Q E h => ?_) (fun cdv A outer s H vs Q E hr h => ?_)
  · obtain ⟨n, e, rfl, _⟩ := h
    rfl
  · obtain ⟨n, e, rfl, q⟩ := h
    refine ⟨_, PSs.nox (pss_one (ps_ret (pe_and (pe_cmpR op_notN (pv 1) pe_non (nomark _)) (pe_one (pe_cmpR op_ge (pv 0) (pv 1) (nomark _)))))), ?_⟩
    cases e with
    | none => exact ⟨_, rfl, rfl, _, rfl, iteF q⟩
    | some g =>
      refine ⟨_, rfl, rfl, _, rfl, iteT ?_⟩
      exact ⟨_, rfl, _, rfl, _, _, rfl, rfl, q⟩
theorem cut1 {ns : List Int} : cutV (ns.map V.int) (some 1) none = (ns.drop 1).map V.int := by
  unfold cutV
  rw [show (1 : Int) = ((1 : Nat) : Int) from rfl, HT.sIx_nat, HT.sIx_none, List.map_drop]
  cases ns with
  | nil => rfl
  | cons n ns =>
    rw [show min 1 (List.map V.int (n :: ns)).length = 1 by simp]
    exact List.take_of_length_le (by simp)
def spAsc (K : PySem.W.Frag) : Sp := fun vs H Q _ => ∃ (a : Addr) (ns : List Int), vs = [.ref a] ∧ SqL K H a (ns.map V.int) ∧ ns.Pairwise (· < ·) ∧ ns.length ≤ 1000 ∧ ∀ H', Same H H' → Q (.bl true) H'
theorem scAs : FnScope ["row", "one", "other"] ["row"] (defScope s_ascends) := ⟨rfl, rfl, rfl, by decide +kernel, rfl, by decide +kernel, by decide +kernel⟩
theorem ok_ascends (T : Txt K w mg) : FnOk P w K mg base CX0 1 (He.fAd K ("ascends", none)) (fdAt K (He.fAd K ("ascends", none))) ["row"] (spAsc K) := by
  refine T.F_ascends.ok scAs (fun vs H Q E h => ?_) (fun cdv A outer s H vs Q E hr h => ?_)
  · obtain ⟨a, ns, rfl, _⟩ := h
    rfl
  · obtain ⟨a, ns, rfl, hs, hp, hl, k⟩ := h
    refine ⟨_, PSs.nox (pss_one (ps_ret (pe_callB (cr_all rfl) (by rfl) T.n_all PyProof.Rows.Boot.«all» (pa_cons (pe_lc (own := [("one", 1), ("other", 2)]) (g := gTup K 2 (gCons (gName 1) (gCons (gName 2) gNil))) (tt := tYes) (by rfl) scAs.nd (pi_zip (by rfl) T.n_zip (pa_cons (pv 0) (pa_cons (pe_slice sl_list (pv 0) (po_some pe_int) po_none) pa_nil))) (blkOk_by (own := [("one", 1), ("other", 2)]) (N := ["row", "one", "other"]) (sc := defScope s_ascends) (by decide +kernel)) (fun _ _ _ _ _ => (pg_tup (by rfl) (pgs_cons (pg_name (i := 1) scAs.nd rfl (Or.inl rfl)) (pgs_cons (pg_name (i := 2) scAs.nd rfl (Or.inl rfl)) pgs_nil)))) (fun _ _ _ _ _ => pts_nil) (fun _ _ _ _ _ => (pe_cmpR op_lt (pv 1) (pv 2) (nomark _)))) pa_nil)))), ?_⟩
    refine ⟨_, rfl, _, rfl, _, rfl, a, _, rfl, hs, fun p np => ?_⟩
    rw [cut1]
    have s1 := new_same (o := .lst ((ns.drop 1).map V.int)) np
    refine ⟨a, p, _, _, rfl, s1.seq hs, SqL.of upd_same, fun D hD => ?_⟩
    have sD := new_same (o := .lst []) hD
    refine lc_it (walk_zip (K := K) (a := a) (b := p) (xs := ns.map V.int) (ys := (ns.drop 1).map V.int) rfl) (fun i H' => Same (upd H p (.lst ((ns.drop 1).map V.int))) H' ∧ H' D = some (.lst ((List.replicate i true).map V.bl))) ⟨sD, upd_same⟩ (fun i H' _ h => ⟨h.1.seq (s1.seq hs), h.1.seq (SqL.of upd_same)⟩) (fun i v H' H2 hi h y => ?_) (fun H' h => ?_)
    · obtain ⟨t, x, y, rfl, nt, rfl, hx, hy⟩ := y
      obtain ⟨sm, hl⟩ := h
      rw [List.length_map, List.length_map, List.length_drop] at hi
      have i1 : i < ns.length := by omega
      have i2 : i + 1 < ns.length := by omega
      replace hx : (ns.map V.int)[i]? = some x := hx
      replace hy : ((ns.drop 1).map V.int)[i]? = some y := hy
      rw [List.getElem?_map, List.getElem?_eq_getElem i1] at hx
      rw [List.getElem?_map, List.getElem?_drop, Nat.add_comm 1 i, List.getElem?_eq_getElem i2] at hy
      cases hx
      cases hy
      have lt : ns[i] < ns[i + 1] := List.pairwise_iff_getElem.mp hp i (i + 1) i1 i2 (by omega)
      refine ⟨t, _, rfl, SqT.of upd_same, rfl, _, _, rfl, _, _, rfl, rfl, ?_⟩
      refine ⟨rfl, ?_⟩
      dsimp only [tYes]
      rw [if_pos rfl]
      refine ⟨_, rfl, _, rfl, _, _, rfl, rfl, ?_⟩
      dsimp only
      rw [decide_eq_true lt]
      have st := new_same (o := .tup [V.int ns[i], V.int ns[i + 1]]) nt
      refine ⟨_, st _ _ hl, by rw [List.length_map, List.length_replicate]; exact Nat.lt_of_lt_of_le (show i < 1000 by omega) (by decide), fun b o z => ?_, ?_⟩
      · rw [upd_ne (ne_of_none z hD)]
        exact st _ _ (sm _ _ z)
      · rw [upd_same, List.replicate_succ', List.map_append]
        rfl
    · refine ⟨D, _, rfl, SqL.of h.2, ?_⟩
      rw [show ∀ n, (List.replicate n true).all id = true by intro n; simp]
      exact k H' (s1.trans h.1)
def spEnds : Sp := fun vs H Q _ => ∃ (a b : Option Int), vs = [ov a, ov b] ∧ ∀ p, H p = none → Q (.ref p) (upd H p (.lst ((csE a b).map V.int)))
theorem scEc : FnScope ["one", "other"] ["one", "other"] (defScope s_ends_that_clash) := ⟨rfl, rfl, rfl, by decide +kernel, rfl, by decide +kernel, by decide +kernel⟩
theorem ok_ends_that_clash (T : Txt K w mg) : FnOk P w K mg base CX0 1 (He.fAd K ("_ends_that_clash", none)) (fdAt K (He.fAd K ("_ends_that_clash", none))) ["one", "other"] spEnds := by
  refine T.F_ends_that_clash.ok scEc (fun vs H Q E h => ?_) (fun cdv A outer s H vs Q E hr h => ?_)
  · obtain ⟨n, e, rfl, _⟩ := h
    rfl
  · obtain ⟨x, y, rfl, q⟩ := h
    refine ⟨_, PSs.nox (pss_cons (ps_if (PW.pt (pw_or (pt_cmpR op_isN (pv 0) pe_non (nomark _)) (pw_or (pt_cmpR op_isN (pv 1) pe_non (nomark _)) (pw_or1 (pt_cmpR op_eq (pv 0) (pv 1) (nomark _)))))) (pss_one (ps_ret (pe_lst pa_nil))) pss_nil)
      (pss_one (ps_ret (pe_lst (pa_cons (pe_callB (call_min2 rfl) (by rfl) T.n_min PyProof.Rows.Boot.«min» (pa_cons (pv 0) (pa_cons (pv 1) pa_nil))) pa_nil))))), ?_⟩
    cases x with
    | none => exact ⟨_, rfl, rfl, _, rfl, iteT (iteT ⟨(show 0 ≤ sizeLine by decide), fun p np => q p np⟩)⟩
    | some x =>
      refine ⟨_, rfl, rfl, _, rfl, iteF ?_⟩
      cases y with
      | none => exact ⟨_, rfl, rfl, _, rfl, iteT (iteT ⟨(show 0 ≤ sizeLine by decide), fun p np => q p np⟩)⟩
      | some y =>
        refine ⟨_, rfl, rfl, _, rfl, iteF ?_⟩
        refine ⟨_, rfl, _, rfl, rfl, _, rfl, ?_⟩
        refine ite2 (fun z => ?_) (fun z => ?_)
        · have e : x = y := by
            have := of_decide_eq_true z
            injection this
          have hq : ∀ p, H p = none → Q (.ref p) (upd H p (.lst [])) := fun p np => by
            have := q p np
            unfold csE at this
            simp only [if_pos e] at this
            exact this
          exact ⟨(show 0 ≤ sizeLine by decide), fun p np => hq p np⟩
        · have e : ¬ x = y := fun w => z (decide_eq_true (by rw [w]))
          have hq : ∀ p, H p = none → Q (.ref p) (upd H p (.lst [.int (if y < x then y else x)])) := fun p np => by
            have := q p np
            unfold csE at this
            simp only [if_neg e] at this
            have e2 : min x y = if y < x then y else x := by split <;> omega
            rw [← e2]
            exact this
          exact ⟨_, rfl, _, rfl, x, y, rfl, (show 1 ≤ sizeLine by decide), fun p np => hq p np⟩
def spMade (K : PySem.W.Frag) : Sp := fun vs H Q _ => ∃ (p : Addr) (t v : Int) (e : Option Int), vs = [.ref p, ov e] ∧ SqT K H p [.int t, .int v] ∧ 0 ≤ t ∧ 0 ≤ v ∧ v ≤ 63 ∧ behind e t = false ∧ Q (.bl true) H
theorem scMd : FnScope ["made", "ends"] ["made", "ends"] (defScope s_is_made) := ⟨rfl, rfl, rfl, by decide +kernel, rfl, by decide +kernel, by decide +kernel⟩
theorem ok_is_made (T : Txt K w mg) : FnOk P w K mg base CX0 4 (He.fAd K ("_is_made", none)) (fdAt K (He.fAd K ("_is_made", none))) ["made", "ends"] (spMade K) := by
  refine T.F_is_made.ok scMd (fun vs H Q E h => ?_) (fun cdv A outer s H vs Q E hr h => ?_)
  · obtain ⟨p, t, v, e, rfl, _⟩ := h
    rfl
  · obtain ⟨p, t, v, e, rfl, sq, h0, h1, h2, hb, q⟩ := h
    refine ⟨_, PSs.nox (pss_cons (ps_if (PW.pt (pw_or (pt_not (pt_val (pe_callB (r := rIsi K) call_isi (by rfl) T.n_isinstance PyProof.Rows.Boot.«isinstance» (pa_cons (pv 0) (pa_cons (pe_bltn (v := .ty "tuple") (by rfl) T.n_tuple PyProof.Rows.Boot.«tuple» rfl) pa_nil))))) (pw_or (pt_cmpR op_ne (pe_callB (r := Evl.rLenS K) call_len_seq (by rfl) T.n_len PyProof.Rows.Boot.«len» (pa_cons (pv 0) pa_nil)) pe_int (nomark _)) (pw_or1 (pt_not (pt_val (pe_call (ok_is_tick T) (hr.mono (by decide)) (by rfl) T.g_is_tick (T.F_is_tick).kp T.b_is_tick .nil pass0 (pa_cons (pe_ix (r := rIxT K) ix_tup (pv 0) pe_int (fun _ _ => rfl)) pa_nil)))))))) (pss_one (ps_ret pe_bl)) pss_nil)
      (pss_one (ps_ret (pe_and (pe_call (ok_is_press T) (hr.mono (by decide)) (by rfl) T.g_is_press (T.F_is_press).kp T.b_is_press .nil pass0 (pa_cons (pe_ix (r := rIxT K) ix_tup (pv 0) pe_int (fun _ _ => rfl)) pa_nil)) (pe_one (pe_or (pe_cmpR op_isN (pv 1) pe_non (nomark _)) (pe_one (pe_cmpR op_lt (pe_ix (r := rIxT K) ix_tup (pv 0) pe_int (fun _ _ => rfl)) (pv 1) (nomark _))))))))), ?_⟩
    refine ⟨_, rfl, _, _, _, _, _, rfl, .ty "tuple", ty_tup sq, kit_ty (r := true) (by decide +kernel), _, rfl, iteF ?_⟩
    refine ⟨_, rfl, _, _, rfl, .inr sq, rfl, _, rfl, iteNS rfl ?_⟩
    refine ⟨_, rfl, p, _, _, _, rfl, rfl, sq, atI_nat (j := 0) rfl, t, rfl, h0, true, rfl, iteF ?_⟩
    refine ⟨_, rfl, p, _, _, _, rfl, rfl, sq, atI_nat (j := 1) rfl, v, rfl, h1, h2, _, rfl, iteT ?_⟩
    cases e with
    | none => exact ⟨_, rfl, rfl, _, rfl, iteT q⟩
    | some g =>
      refine ⟨_, rfl, rfl, _, rfl, iteF ⟨_, rfl, p, _, _, _, rfl, rfl, sq, atI_nat (j := 0) rfl, _, rfl, _, _, rfl, rfl, ?_⟩⟩
      have hg : t < g := by
        have : ¬ g ≤ t := of_decide_eq_false hb
        omega
      show Q (V.bl (decide (t < g))) H
      rw [decide_eq_true hg]
      exact q
theorem paired_at {α β : Type} {F : α → β → Prop} : ∀ {l : List α} {m : List β} {i : Nat} {x : α}, Paired F l m → l[i]? = some x → ∃ y, m[i]? = some y ∧ F x y
  | _, _, _, _, .nil, h => by cases h
  | _, _, 0, _, .cons a _, h => by cases h; exact ⟨_, rfl, a⟩
  | _ :: _, _ :: _, i + 1, _, .cons _ t, h => by
    obtain ⟨y, e, r⟩ := paired_at (i := i) t (by simpa using h)
    exact ⟨y, by simpa using e, r⟩
theorem ends_test {i : Nat} {e : Option Int} {σ : L2.St} {H : Hp} {F : Bool → Hp → Prop} (hv : σ[i]? = some (some (ov e))) (he : ∀ g, e = some g → 0 ≤ g) (h : F false H) :
    (tNot (tOr (tTest (tOp (fun x y H Q => y = V.non ∧ Q (V.bl (decide (x = V.non))) H) (tVar i) (tC V.non))) (tB (tCall spTick [] E0 (tCons (tVar i) tNil))))) σ H F := by
  cases e with
  | none => exact ⟨_, hv, rfl, _, rfl, iteT h⟩
  | some g => exact ⟨_, hv, rfl, _, rfl, iteF ⟨_, hv, g, rfl, he g rfl, _, rfl, h⟩⟩
def spKnown (K : PySem.W.Frag) : Sp := fun vs H Q _ => ∃ (v : V) (k : Kn), vs = [v] ∧ KnH K H v k ∧ k.ok ∧ ∀ H', Same H H' → Q (.bl true) H'
theorem scKn : FnScope ["told", "row", "ends", "made"] ["told"] (defScope s_is_known) := ⟨rfl, rfl, rfl, by decide +kernel, rfl, by decide +kernel, by decide +kernel⟩
theorem ok_is_known (T : Txt K w mg) : FnOk P w K mg base CX0 5 (He.fAd K ("is_known", none)) (fdAt K (He.fAd K ("is_known", none))) ["told"] (spKnown K) := by
  refine T.F_is_known.ok scKn (fun vs H Q E h => ?_) (fun cdv A outer s H vs Q E hr h => ?_)
  · obtain ⟨v, k, rfl, _⟩ := h
    rfl
  · obtain ⟨v, k, rfl, ⟨t, r, ps, rfl, sq, fz, prs⟩, ok, kk⟩ := h
    refine ⟨_, PSs.nox (pss_cons (ps_if (PW.pt (pw_or (pt_not (pt_val (pe_callB (r := rIsi K) call_isi (by rfl) T.n_isinstance PyProof.Rows.Boot.«isinstance» (pa_cons (pv 0) (pa_cons (pe_bltn (v := .ty "tuple") (by rfl) T.n_tuple PyProof.Rows.Boot.«tuple» rfl) pa_nil))))) (pw_or1 (pt_cmpR op_ne (pe_callB (r := Evl.rLenS K) call_len_seq (by rfl) T.n_len PyProof.Rows.Boot.«len» (pa_cons (pv 0) pa_nil)) pe_int (nomark _))))) (pss_one (ps_ret pe_bl)) pss_nil)
      (pss_cons (ps_asg (pv 0) (pg_tup (by rfl) (pgs_cons (pg_name (i := 1) scKn.nd rfl (Or.inl rfl)) (pgs_cons (pg_name (i := 2) scKn.nd rfl (Or.inr rfl)) pgs_nil))))
      (pss_cons (ps_if (PW.pt (pw_or (pt_not (pt_val (pe_callB (r := rIsi K) call_isi (by rfl) T.n_isinstance PyProof.Rows.Boot.«isinstance» (pa_cons (pv 1) (pa_cons (pe_bltn (v := .ty "tuple") (by rfl) T.n_tuple PyProof.Rows.Boot.«tuple» rfl) pa_nil))))) (pw_or1 (pt_not (PW.pt (pw_or (pt_cmpR op_isN (pv 2) pe_non (nomark _)) (pw_or1 (pt_val (pe_call (ok_is_tick T) (hr.mono (by decide)) (by rfl) T.g_is_tick (T.F_is_tick).kp T.b_is_tick .nil pass0 (pa_cons (pv 2) pa_nil)))))))))) (pss_one (ps_ret pe_bl)) pss_nil)
      (pss_one (ps_ret (pe_and (pe_callB (cr_all rfl) (by rfl) T.n_all PyProof.Rows.Boot.«all» (pa_cons (pe_lc (own := [("made", 3)]) (g := gName 3) (tt := tYes) (by rfl) scKn.nd (pi_tup (pv 1)) (blkOk_by (own := [("made", 3)]) (N := ["told", "row", "ends", "made"]) (sc := defScope s_is_known) (by decide +kernel)) (fun _ _ _ _ _ => pg_name (i := 3) scKn.nd rfl (Or.inl rfl)) (fun _ _ _ _ _ => pts_nil) (fun _ _ _ _ _ => (pe_call (ok_is_made T) (hr.mono (by decide)) (by rfl) T.g_is_made (T.F_is_made).kp T.b_is_made .nil pass0 (pa_cons (pv 3) (pa_cons (pv 2) pa_nil))))) pa_nil)) (pe_one (pe_call (ok_ascends T) (hr.mono (by decide)) (by rfl) T.g_ascends (T.F_ascends).kp T.b_ascends .nil pass0 (pa_cons (pe_lc (own := [("made", 3)]) (g := gName 3) (tt := tYes) (by rfl) scKn.nd (pi_tup (pv 1)) (blkOk_by (own := [("made", 3)]) (N := ["told", "row", "ends", "made"]) (sc := defScope s_is_known) (by decide +kernel)) (fun _ _ _ _ _ => pg_name (i := 3) scKn.nd rfl (Or.inl rfl)) (fun _ _ _ _ _ => pts_nil) (fun _ _ _ _ _ => (pe_ix (r := rIxT K) ix_tup (pv 3) pe_int (fun _ _ => rfl)))) pa_nil))))))))), ?_⟩
    refine ⟨_, rfl, _, _, _, _, _, rfl, .ty "tuple", ty_tup sq, kit_ty (r := true) (by decide +kernel), _, rfl, iteF ?_⟩
    refine ⟨_, rfl, _, _, rfl, .inr sq, rfl, _, rfl, iteNS rfl ?_⟩
    refine ⟨_, rfl, t, _, rfl, sq, rfl, _, _, rfl, _, _, rfl, rfl, ?_⟩
    refine ⟨_, rfl, _, _, _, _, _, rfl, .ty "tuple", ty_tup fz.sq, kit_ty (r := true) (by decide +kernel), _, rfl, iteF ?_⟩
    refine ends_test (e := k.ends) rfl (fun g hg => (ok.ends g hg).1) (iteF ?_)
    refine ⟨_, rfl, r, rfl, ⟨_, fz.sq⟩, fun D hD => ?_⟩
    have hl := Paired.length prs
    have hk := ok.len
    have sD := new_same (o := .lst []) hD
    refine lc_tup (xs := ps.map V.ref) (fun i H' => Same H H' ∧ H' D = some (.lst ((List.replicate i true).map V.bl))) ⟨sD, upd_same⟩ (fun i H' _ h => (same_tf h.1).sq fz.sq) (fun i x H' hx h => ?_) (fun H' h => ?_)
    · obtain ⟨sm, hacc⟩ := h
      rw [List.getElem?_map] at hx
      cases hp : ps[i]? with
      | none => rw [hp] at hx; cases hx
      | some p =>
        rw [hp] at hx
        cases hx
        obtain ⟨e, he, hq⟩ := paired_at prs hp
        have hi := (List.getElem?_eq_some_iff.mp he).1
        have hm := List.mem_of_getElem? he
        have rg := ok.rng e hm
        have nb : behind k.ends e.1 = false := notBehind ok (look_of ok.nd (show (e.1, e.2) ∈ k.row from hm))
        refine ⟨rfl, ?_⟩
        dsimp only [tYes]
        rw [if_pos rfl]
        refine ⟨_, rfl, _, rfl, p, e.1, e.2, k.ends, rfl, (same_tf sm).sq hq, rg.1, rg.2.2.1, rg.2.2.2, nb, ?_⟩
        refine ⟨_, hacc, by rw [List.length_map, List.length_replicate]; exact Nat.lt_of_lt_of_le (show i < 1001 by omega) (by decide), fun b o z => ?_, ?_⟩
        · rw [upd_ne (ne_of_none z hD)]
          exact sm _ _ z
        · rw [upd_same, List.replicate_succ', List.map_append]
          rfl
    refine ⟨D, _, rfl, SqL.of h.2, ?_⟩
    rw [show ∀ n, (List.replicate n true).all id = true by intro n; simp]
    refine ⟨_, rfl, iteT ?_⟩
    have s1 := h.1
    refine ⟨_, rfl, r, rfl, ⟨_, (same_tf s1).sq fz.sq⟩, fun D2 hD2 => ?_⟩
    refine lc_tup (xs := ps.map V.ref) (fun i H2 => Same H' H2 ∧ H2 D2 = some (.lst (((keys k.row).take i).map V.int))) ⟨new_same hD2, upd_same⟩ (fun i H2 _ h => (same_tf (s1.trans h.1)).sq fz.sq) (fun i x H2 hx h => ?_) (fun H2 h => ?_)
    · obtain ⟨sm, hacc⟩ := h
      rw [List.getElem?_map] at hx
      cases hp : ps[i]? with
      | none => rw [hp] at hx; cases hx
      | some p =>
        rw [hp] at hx
        cases hx
        obtain ⟨e, he, hq⟩ := paired_at prs hp
        have hi := (List.getElem?_eq_some_iff.mp he).1
        refine ⟨rfl, ?_⟩
        dsimp only [tYes]
        rw [if_pos rfl]
        refine ⟨_, rfl, p, _, _, _, rfl, rfl, (same_tf (s1.trans sm)).sq hq, atI_nat (j := 0) rfl, ?_⟩
        have hke : (keys k.row)[i]? = some e.1 := by
          unfold keys
          rw [List.getElem?_map, he]
          rfl
        refine ⟨_, hacc, by rw [List.length_map, List.length_take]; exact Nat.lt_of_lt_of_le (show min i (keys k.row).length < 1001 by omega) (by decide), fun b o z => ?_, ?_⟩
        · rw [upd_ne (ne_of_none z hD2)]
          exact sm _ _ z
        · rw [upd_same, List.take_add_one, hke, List.map_append]
          rfl
    have hlk : (keys k.row).length = k.row.length := List.length_map _
    have hfin : (keys k.row).take (ps.map V.ref).length = keys k.row := List.take_of_length_le (by rw [List.length_map, hlk, hl]; exact Nat.le_refl _)
    have h2 := h.2
    rw [hfin] at h2
    exact ⟨D2, keys k.row, rfl, SqL.of h2, ok.asc, by rw [hlk]; exact hk, fun H3 s3 => kk H3 ((s1.trans h.1).trans s3)⟩
def spNk (K : PySem.W.Frag) : Sp := fun vs H Q _ => ∃ (a : Addr) (v : V) (k : Kn), vs = [.ref a] ∧ SqT K H a [v] ∧ KnH K H v k ∧ k.ok ∧ ∀ H', Same H H' → Q .non H'
theorem KnH.tf {H H' : Hp} {v : V} {k : Kn} (s : Same H H') (h : KnH K H v k) : KnH K H' v k := by
  obtain ⟨t, r, ps, e, sq, ⟨ob, od, fz⟩, prs⟩ := h
  exact ⟨t, r, ps, e, (same_tf s).sq sq, ⟨ob, od, s _ _ fz⟩, L2.Paired.mapP prs fun _ _ z => (same_tf s).sq z⟩
theorem scNk : FnScope ["knowns", "known"] ["knowns"] (defScope s_need_known) := ⟨rfl, rfl, rfl, by decide +kernel, rfl, by decide +kernel, by decide +kernel⟩
theorem ok_need_known (T : Txt K w mg) : FnOk P w K mg base CX0 6 (He.fAd K ("_need_known", none)) (fdAt K (He.fAd K ("_need_known", none))) ["knowns"] (spNk K) := by
  refine T.F_need_known.ok scNk (fun vs H Q E h => ?_) (fun cdv A outer s H vs Q E hr h => ?_)
  · obtain ⟨a, v, k, rfl, _⟩ := h
    rfl
  · obtain ⟨a, v, k, rfl, sq, hk, ok, q⟩ := h
    refine ⟨_, PSs.nox (pss_one (ps_for PassesOwn.never rfl (pi_tup (pv 0)) (pg_name (i := 1) scNk.nd rfl (Or.inl rfl)) (pss_one (ps_if (pt_not (pt_val (pe_call (ok_is_known T) (hr.mono (by decide)) (by rfl) T.g_is_known (T.F_is_known).kp T.b_is_known .nil pass0 (pa_cons (pv 1) pa_nil)))) (pss_one ps_never) pss_nil)))), ?_⟩
    refine ⟨_, rfl, a, rfl, ⟨_, sq⟩, ?_⟩
    refine for_it (walk_tup (K := K) (a := a) (xs := [v])) (fun i σ H' => (∃ v1, σ = [some (.ref a), v1]) ∧ Same H H') ⟨⟨_, rfl⟩, Same.refl _⟩ (fun i σ H' _ h => (same_tf h.2).sq sq) (fun i x σ H' H2 hi h y => ?_) (fun σ H' h => q H' h.2)
    obtain ⟨⟨v1, rfl⟩, sm⟩ := h
    obtain ⟨rfl, hx⟩ := y
    have hx2 : x = v := by
      have hi0 : i = 0 := by
        have : i < 1 := hi
        omega
      subst hi0
      exact (Option.some.inj hx).symm
    subst hx2
    exact ⟨_, rfl, x, k, rfl, hk.tf sm, ok, fun H3 s3 => ⟨true, rfl, iteF ⟨⟨_, rfl⟩, sm.trans s3⟩⟩⟩
def spNt : Sp := fun vs H Q _ => ∃ n : Int, vs = [.int n] ∧ 0 ≤ n ∧ Q .non H
theorem scNt : FnScope ["tick"] ["tick"] (defScope s_need_tick) := ⟨rfl, rfl, rfl, by decide +kernel, rfl, by decide +kernel, by decide +kernel⟩
theorem ok_need_tick (T : Txt K w mg) : FnOk P w K mg base CX0 1 (He.fAd K ("_need_tick", none)) (fdAt K (He.fAd K ("_need_tick", none))) ["tick"] spNt := by
  refine T.F_need_tick.ok scNt (fun vs H Q E h => ?_) (fun cdv A outer s H vs Q E hr h => ?_)
  · obtain ⟨n, rfl, _⟩ := h
    rfl
  · obtain ⟨n, rfl, h, q⟩ := h
    refine ⟨_, PSs.nox (pss_one (ps_if (pt_cmpR op_lt (pv 0) pe_int (nomark _)) (pss_one ps_never) pss_nil)), ?_⟩
    exact ⟨_, rfl, _, _, rfl, rfl, _, rfl, ite2 (fun z => absurd (of_decide_eq_true z) (by omega)) (fun _ => q)⟩
end
end K47
set_option maxRecDepth 100000
set_option maxHeartbeats 2000000
/-! The error of a press that is known otherwise. -/
namespace K47
open PySem PySem.Spec PyProof.Rows L2 KF KD
structure CF (K : PySem.W.Frag) (C : Addr) : Prop where
  oex : OexC K C
  ini : PySem.W.findIn K (.ref C) "__init__" = some (some (.ref (iAd K)))
  noV : PySem.W.findIn K (.ref C) "value" = some none
  xf : XfC K C
  exc : ExcC K C
  game : PySem.W.exmOne K (.ref C) (.ref (He.ga K "GameError")) = some true
  ve : PySem.W.kitOne K (.ref C) (.type "ValueError") = some true
theorem and2 {a b : Bool} (h : (a && b) = true) : a = true ∧ b = true := Bool.and_eq_true_iff.mp h
section
variable {K : PySem.W.Frag}
theorem cf_of (h : exAll K = true) : CF K (He.ga K "Clash") := by
  obtain ⟨hg, h⟩ := and2 h
  obtain ⟨hc, _⟩ := and2 h
  obtain ⟨g1, hg⟩ := and2 hg
  obtain ⟨g2, hg⟩ := and2 hg
  obtain ⟨h1, hc⟩ := and2 hc
  obtain ⟨h2, hc⟩ := and2 hc
  obtain ⟨h3, hc⟩ := and2 hc
  obtain ⟨h4, hc⟩ := and2 hc
  obtain ⟨h5, hc⟩ := and2 hc
  obtain ⟨h6, hc⟩ := and2 hc
  obtain ⟨h7, hc⟩ := and2 hc
  obtain ⟨h8, hc⟩ := and2 hc
  obtain ⟨h9, hc⟩ := and2 hc
  obtain ⟨h10, hc⟩ := and2 hc
  obtain ⟨h11, hc⟩ := and2 hc
  obtain ⟨h12, hc⟩ := and2 hc
  obtain ⟨h13, h14⟩ := and2 hc
  exact ⟨⟨okC_ok h1, of_decide_eq_true h2, of_decide_eq_true h3, of_decide_eq_true h4, h5⟩, of_decide_eq_true h6, of_decide_eq_true h7,
    ⟨of_decide_eq_true h8, of_decide_eq_true h9, of_decide_eq_true h3, h10⟩, ⟨of_decide_eq_true h8, of_decide_eq_true h9, of_decide_eq_true h3, h10, of_decide_eq_true h11, of_decide_eq_true g1, of_decide_eq_true g2, of_decide_eq_true h12⟩,
    of_decide_eq_true h13, of_decide_eq_true h14⟩
theorem tI_of (h : exAll K = true) : PySem.W.typeIn K (.ref (iAd K)) = some (.type "function") := by
  obtain ⟨hg, _⟩ := and2 h
  obtain ⟨_, hg⟩ := and2 hg
  obtain ⟨_, hg⟩ := and2 hg
  obtain ⟨g3, _⟩ := and2 hg
  exact of_decide_eq_true g3
theorem vV_of (h : exAll K = true) : PySem.W.findCls K (.type "ValueError") (.type "type") "__init__" = some (.val (.builtin "ValueError.__init__")) := by
  obtain ⟨hg, _⟩ := and2 h
  obtain ⟨_, hg⟩ := and2 hg
  obtain ⟨_, hg⟩ := and2 hg
  obtain ⟨_, g4⟩ := and2 hg
  split at g4
  · rename_i s e
    rw [e, of_decide_eq_true g4]
  · cases g4
theorem clash_is (h : exAll K = true) : PySem.W.kitOne K (.ref (He.ga K "Clash")) (.ref (He.ga K "Clash")) = some true := by
  obtain ⟨_, h⟩ := and2 h
  obtain ⟨_, h⟩ := and2 h
  exact of_decide_eq_true (and2 h).1
theorem clash_not (h : exAll K = true) {y : Str} (hy : y ∈ nots) : PySem.W.kitOne K (.ref (He.ga K "Clash")) (.ref (He.ga K y)) = some false := by
  obtain ⟨_, h⟩ := and2 h
  obtain ⟨_, h⟩ := and2 h
  exact of_decide_eq_true (List.all_eq_true.mp (and2 h).2 y hy)
end
def spInit (K : PySem.W.Frag) : Sp := fun vs H Q _ => ∃ (a C : Addr) (n : Int), vs = [.ref a, .int n] ∧ OexC K C ∧ PySem.W.findIn K (.ref C) "value" = some none ∧ H a = some (exo a C none) ∧ n.natAbs < 2 ^ 63 ∧
  ∀ dx, H dx = none → dx ≠ a → Q .non (upd (upd H dx (exd dx [(("value" : Str), .int n)])) a (exo a C (some dx)))
section
variable {P : Program} {w : World} {K : PySem.W.Frag} {mg : Str → Option Value} {base : Heap}
theorem scI : FnScope ["self", "value"] ["self", "value"] (defScope s_GameError_init) := ⟨rfl, rfl, rfl, by decide +kernel, rfl, by decide +kernel, by decide +kernel⟩
theorem ok_init (T : Txt K w mg) : FnOk P w K mg base CX0 1 (iAd K) (fdAt K (iAd K)) ["self", "value"] (spInit K) := by
  refine T.F_GameError_init.ok scI (fun vs H Q E h => ?_) (fun cdv A outer s H vs Q E hr h => ?_)
  · obtain ⟨a, C, v, rfl, _⟩ := h
    rfl
  · obtain ⟨a, C, n, rfl, hO, hV, ha, hn, k⟩ := h
    refine ⟨_, PSs.nox (pss_cons (ps_expr (pe_veinit (by rfl) T.n_ValueError (vV_of T.ex) (pa_cons (pv 0) (pa_cons (pe_callB SkE.call_repr_int (by rfl) T.n_repr PyProof.Rows.Boot.«repr» (pa_cons (pv 1) pa_nil)) pa_nil))))
      (pss_one (ps_ost (pv 0) (pv 1)))), ?_⟩
    have hlog : n.natAbs.log2 < 1920 := Nat.lt_of_lt_of_le (PySem.Flt.log2_lt_of (by decide) hn) (by decide)
    refine ⟨_, rfl, _, rfl, n, rfl, hlog, ⟨a, C, [.str _], rfl, (show 1 ≤ 1000 by decide), hO, ha, ?_⟩⟩
    exact ⟨_, rfl, _, rfl, a, C, rfl, hO, hV, .inl ⟨ha, fun dx n ne => k dx n ne⟩⟩
theorem made {C : Addr} (c : CF K C) {H : Hp} {n : Int} {E : XK} (hn : n.natAbs < 2 ^ 63) (k : ∀ dx, H dx = none → E (.ref C) (some dx) (upd H dx (.xd [(("value" : Str), .int n)]))) (a : Addr) (ha : H a = none) :
    spInit K [.ref a, .int n] (upd H a (exo a C none)) (fun z H2 => z = .non ∧ ∃ (dx : Addr) (fs : List (Str × V)), H2 a = some (exo a C (some dx)) ∧ H2 dx = some (exd dx fs) ∧ H dx = none ∧ E (.ref C) (some dx) (upd (del H2 a) dx (.xd fs))) (fun _ _ _ => False) := by
  refine ⟨a, C, n, rfl, c.oex, c.noV, upd_same, hn, fun dx nd ne => ⟨rfl, dx, _, upd_same, by rw [upd_ne ne, upd_same], ?_, ?_⟩⟩
  · rw [upd_ne ne] at nd
    exact nd
  · have hdn : H dx = none := by
      rw [upd_ne ne] at nd
      exact nd
    have e : upd (del (upd (upd (upd H a (exo a C none)) dx (exd dx [(("value" : Str), .int n)])) a (exo a C (some dx))) a) dx (.xd [(("value" : Str), .int n)]) = upd H dx (.xd [(("value" : Str), .int n)]) := by
      funext b
      by_cases h1 : b = dx
      · rw [h1, upd_same, upd_same]
      · rw [upd_ne h1, upd_ne h1]
        by_cases h2 : b = a
        · rw [h2, del_same, ha]
        · rw [del_ne h2, upd_ne h2, upd_ne h1, upd_ne h2]
    rw [e]
    exact k dx hdn
end
end K47
set_option maxRecDepth 100000
set_option maxHeartbeats 4000000
/-! What the program learns. -/
namespace K47
open PySem PySem.Spec PyProof.Rows L2 KF KD
abbrev Kd := Int × Int
def dk (r : Rw) : List (Key × V) := r.map fun e => (Sum.inl e.1, V.int e.2)
theorem dk_val (r : Rw) (t : Int) : valV (dk r) (.inl t) = (look r t).map V.int := by
  unfold valV dk look
  rw [List.find?_map]
  have : ((fun kv : Key × V => decide (kv.1 = Sum.inl t)) ∘ fun e : Int × Int => ((Sum.inl e.1 : Key), V.int e.2)) = fun e : Int × Int => decide (e.1 = t) := by
    funext e
    show decide ((Sum.inl e.1 : Key) = Sum.inl t) = decide (e.1 = t)
    by_cases h : e.1 = t
    · rw [decide_eq_true h, decide_eq_true (by rw [h])]
    · rw [decide_eq_false h, decide_eq_false (fun z => h (Sum.inl.inj z))]
  rw [this]
  cases r.find? fun e => decide (e.1 = t) <;> rfl
theorem dk_put (r : Rw) (t v : Int) : putK (dk r) (.inl t) (.int v) = dk (putr r t v) := by
  have ha : ((dk r).any fun kv => decide (kv.1 = (Sum.inl t : Key))) = r.any fun e => decide (e.1 = t) := by
    unfold dk
    rw [List.any_map]
    congr 1
    funext e
    show decide ((Sum.inl e.1 : Key) = Sum.inl t) = decide (e.1 = t)
    by_cases h : e.1 = t
    · rw [decide_eq_true h, decide_eq_true (by rw [h])]
    · rw [decide_eq_false h, decide_eq_false (fun z => h (Sum.inl.inj z))]
  unfold putK putr
  rw [ha]
  split
  · unfold dk
    rw [List.map_map, List.map_map]
    refine List.map_congr_left fun e _ => ?_
    show (if (Sum.inl e.1 : Key) = Sum.inl t then ((Sum.inl e.1 : Key), V.int v) else (Sum.inl e.1, V.int e.2)) = _
    by_cases h : e.1 = t
    · rw [if_pos (by rw [h])]
      show _ = ((Sum.inl (if e.1 = t then (e.1, v) else e).1 : Key), V.int (if e.1 = t then (e.1, v) else e).2)
      rw [if_pos h]
    · rw [if_neg (fun z => h (Sum.inl.inj z))]
      show _ = ((Sum.inl (if e.1 = t then (e.1, v) else e).1 : Key), V.int (if e.1 = t then (e.1, v) else e).2)
      rw [if_neg h]
  · unfold dk
    rw [List.map_append]
    rfl
theorem put_new {r : Rw} {t v : Int} (h : look r t = none) : putr r t v = r ++ [(t, v)] := by
  unfold putr
  rw [if_neg (by
    rw [List.any_eq_true]
    rintro ⟨q, hq, hd⟩
    exact look_none h (List.mem_map.mpr ⟨q, hq, of_decide_eq_true hd⟩))]
theorem dk_len (r : Rw) : (dk r).length = r.length := List.length_map _
theorem dk_keys (r : Rw) : (dk r).map (·.1) = (keys r).map Sum.inl := by
  unfold dk keys
  rw [List.map_map, List.map_map]
  rfl
/-- a letter, as it stands in the heap -/
def RwH (K : PySem.W.Frag) (H : Hp) (v : V) (ns : List Int) : Prop := ∃ r : Addr, v = .ref r ∧ SqT K H r (ns.map V.int)
section
variable {P : Program} {w : World} {K : PySem.W.Frag} {mg : Str → Option Value} {base : Heap}
theorem ends_stmt {i : Nat} {e : Option Int} {σ : L2.St} {H : Hp} {D : Ends} (hv : σ[i]? = some (some (ov e))) (he : ∀ g, e = some g → 0 ≤ g) (h : D.nx σ H) :
    (tIfS (tTest (tOp (fun x y H Q => y = V.non ∧ Q (V.bl !decide (x = V.non)) H) (tVar i) (tC V.non))) (tDrop (tCall spNt [] E0 (tCons (tVar i) tNil))) tNext) D σ H := by
  cases e with
  | none => exact ⟨_, hv, rfl, _, rfl, iteF h⟩
  | some g => exact ⟨_, hv, rfl, _, rfl, iteT ⟨_, hv, g, rfl, he g rfl, h⟩⟩
theorem paired_app {α β : Type} {F : α → β → Prop} : ∀ {l1 : List α} {m1 : List β} {l2 : List α} {m2 : List β}, Paired F l1 m1 → Paired F l2 m2 → Paired F (l1 ++ l2) (m1 ++ m2)
  | [], [], _, _, .nil, h => h
  | _ :: _, _ :: _, _, _, .cons a t, h => .cons a (paired_app t h)
theorem TF.of_lst {H : Hp} {p : Addr} {o : HO} {xs : List V} (h : H p = some (.lst xs)) : TF H (upd H p o) := fun c ys z => by
  rcases z with z | ⟨u, z⟩
  · exact .inl (by rw [upd_ne (fun q => by rw [q, h] at z; cases z)]; exact z)
  · exact .inr ⟨u, by rw [upd_ne (fun q => by rw [q, h] at z; cases z)]; exact z⟩
theorem end_expr {k : Kn} {l : Lt} {σ : L2.St} {H : Hp} {t r : Addr} {Q : VK} (h0 : σ[0]? = some (some (.ref t))) (h3 : σ[3]? = some (some (ov l.ends))) (sq : SqT K H t [.ref r, ov k.ends]) (q : Q (ov (ende k l)) H) :
    (tIf (tTest (tOp (fun x y H Q => y = V.non ∧ Q (V.bl (decide (x = V.non))) H) (tOp (rIxT K) (tVar 0) (tC (V.int 1))) (tC V.non))) (tVar 3) (tOp (rIxT K) (tVar 0) (tC (V.int 1)))) σ H Q := by
  unfold ende at q
  cases hk : k.ends with
  | none =>
    rw [hk] at sq q
    exact ⟨_, h0, t, _, _, _, rfl, rfl, sq, atI_nat (j := 1) rfl, rfl, _, rfl, iteT ⟨_, h3, q⟩⟩
  | some g =>
    rw [hk] at sq q
    exact ⟨_, h0, t, _, _, _, rfl, rfl, sq, atI_nat (j := 1) rfl, rfl, _, rfl, iteF ⟨_, h0, t, _, _, _, rfl, rfl, sq, atI_nat (j := 1) rfl, q⟩⟩
theorem dk_at {r : Rw} {i : Nat} {y : Key} {v : V} (h : (dk r)[i]? = some (y, v)) : ∃ a : Int × Int, r[i]? = some a ∧ y = .inl a.1 ∧ v = .int a.2 := by
  unfold dk at h
  rw [List.getElem?_map] at h
  cases e : r[i]? with
  | none => rw [e] at h; cases h
  | some a =>
    rw [e] at h
    cases h
    exact ⟨a, rfl, rfl, rfl⟩
def spLrn (K : PySem.W.Frag) : Sp := fun vs H Q E => ∃ (v r : V) (k : Kn) (l : Lt), vs = [v, .int l.first, r, ov l.ends] ∧ KnH K H v k ∧ k.ok ∧ RwH K H r l.row ∧ l.ok ∧
  (∀ H' x, Same H H' → (∀ x, ¬ ClP k l x) → KnH K H' x (lrn k l) → Q x H') ∧
  ∀ H' dx m, Same H H' → ClP k l m → (∀ x, ClP k l x → m ≤ x) → H' dx = none → E (.ref (He.ga K "Clash")) (some dx) (upd H' dx (.xd [(("value" : Str), .int m)]))
theorem scWr : FnScope ["known", "first", "row", "ends", "press", "presses", "tick", "clashes", "end"] ["known", "first", "row", "ends"] (defScope s_with_row) := ⟨rfl, rfl, rfl, by decide +kernel, rfl, by decide +kernel, by decide +kernel⟩
theorem ok_with_row (T : Txt K w mg) : FnOk P w K mg base (L2.CX P w) 3 (He.fAd K ("with_row", none)) (fdAt K (He.fAd K ("with_row", none))) ["known", "first", "row", "ends"] (spLrn K) := by
  have c0 := cf_of T.ex
  have tI := tI_of T.ex
  have GI : FnOk P w K mg base CX0 1 (iAd K) (fdAt K (iAd K)) ["self", "value"] (spInit K) := ok_init T
  have bI : Binds K (fdAt K (iAd K)) ["self", "value"] [] := T.b_GameError_init
  refine T.F_with_row.ok scWr (fun vs H Q E h => ?_) (fun cdv A outer s H vs Q E hr h => ?_)
  · obtain ⟨v, r, k, l, rfl, _⟩ := h
    rfl
  · obtain ⟨v, r, k, l, rfl, hk, ok, ⟨rr, rfl, hrow⟩, lo, kq, ke⟩ := h
    have hr1 : Room 2 _ := hr.mono (by decide)
    have hu := Nat.lt_of_le_of_lt (Nat.add_le_add_left (by decide : 1 ≤ 64) _) hr.units
    refine ⟨_, (pss_cons (ps_set (i := 5) scWr.nd rfl (Or.inr rfl) (pe_dc (own := [("tick", 6), ("press", 4)]) (g := gTup K 2 (gCons (gName 6) (gCons (gName 4) gNil))) (tt := tYes) rfl scWr.nd (pi_tup (pe_ix (r := rIxT K) ix_tup (pv 0) pe_int (fun _ _ => rfl))) (blkOk_by (own := [("tick", 6), ("press", 4)]) (N := ["known", "first", "row", "ends", "press", "presses", "tick", "clashes", "end"]) (sc := defScope s_with_row) (by decide +kernel)) (fun _ _ _ _ _ => pg_tup (by rfl) (pgs_cons (pg_name (i := 6) scWr.nd rfl (Or.inl rfl)) (pgs_cons (pg_name (i := 4) scWr.nd rfl (Or.inl rfl)) pgs_nil))) (fun _ _ _ _ _ => pts_nil) (fun _ _ _ _ _ => pv 6) (fun _ _ _ _ _ => pv 4)))
      (pss_cons (ps_set (i := 7) scWr.nd rfl (Or.inl rfl) (pe_call (ok_ends_that_clash T) (hr.mono (by decide)) (by rfl) T.g_ends_that_clash (T.F_ends_that_clash).kp T.b_ends_that_clash .nil pass0 (pa_cons (pe_ix (r := rIxT K) ix_tup (pv 0) pe_int (fun _ _ => rfl)) (pa_cons (pv 3) pa_nil))))
      (pss_cons (ps_for (passes_of rfl) rfl (pi_enTS (by rfl) T.n_enumerate (pa_cons (pv 2) pa_nil) (pk_cons (pv 1) pk_nil)) (pg_tup (by rfl) (pgs_cons (pg_name (i := 6) scWr.nd rfl (Or.inl rfl)) (pgs_cons (pg_name (i := 4) scWr.nd rfl (Or.inl rfl)) pgs_nil))) (pss_one (ps_if (pt_cmpR op_ne (pe_dsetd (pv 5) (pv 6) (pv 4) ⟨rfl, rfl, rfl, rfl⟩) (pv 4) (nomark _)) (pss_one (ps_expr (pe_bm PySem.F.plainAttrs_list PySem.F.slot_list_append PySem.F.type_list_append mt_append (pv 7) (pa_cons (pv 6) pa_nil)))) pss_nil)))
      (pss_cons (ps_set (i := 8) scWr.nd rfl (Or.inr rfl) (pe_ifExp (pt_cmpR op_isN (pe_ix (r := rIxT K) ix_tup (pv 0) pe_int (fun _ _ => rfl)) pe_non (nomark _)) (pv 3) (pe_ix (r := rIxT K) ix_tup (pv 0) pe_int (fun _ _ => rfl))))
      (pss_cons (ps_expr (pe_bm PySem.F.plainAttrs_list PySem.F.slot_list_extend PySem.F.type_list_extend mt_extend (pv 7) (pa_cons (pe_lock (pe_lc (own := [("tick", 6)]) (g := gName 6) (by rfl) scWr.nd (pi_keys (pv 5)) (blkOk_by (own := [("tick", 6)]) (N := ["known", "first", "row", "ends", "press", "presses", "tick", "clashes", "end"]) (sc := defScope s_with_row) (by decide +kernel)) (fun _ _ _ _ _ => pg_name (i := 6) scWr.nd rfl (Or.inl rfl)) (fun _ _ _ _ _ => pts_one (PW.pt (pw_and (pt_val (pe_call (ok_is_behind T) (hr.mono (by decide)) (by rfl) T.g_is_behind (T.F_is_behind).kp T.b_is_behind .nil pass0 (pa_cons (pv 6) (pa_cons (pv 8) pa_nil)))) (pw_and1 (pt_cmpR op_ne (pe_dget hu (pv 5) (pv 6) (fun _ _ => rfl)) pe_int (nomark _)))))) (fun _ _ _ _ _ => pv 6))) pa_nil)))
      (pss_cons (ps_if (pt_truth (pv 7) (by intro _; rfl)) (pss_one (ps_raise rfl (takes_of rfl rfl rfl rfl) (pmk_oex c0.oex c0.ini tI GI hr1 bI .nil pass0 (by rfl) T.g_Clash (pa_cons (pe_callB (cr_min rfl) (by rfl) T.n_min PyProof.Rows.Boot.«min» (pa_cons (pv 7) pa_nil)) pa_nil)))) pss_nil)
      (pss_one (ps_ret (pe_tup (pa_cons (pe_callTy call_tupleFz (by rfl) T.n_tuple PyProof.Rows.Boot.«tuple» (pa_cons (pe_lc (own := [("tick", 6)]) (g := gName 6) (by rfl) scWr.nd (pi_list (pe_callB (call_sortedDA rfl) (by rfl) T.n_sorted PyProof.Rows.Boot.«sorted» (pa_cons (pv 5) pa_nil))) (blkOk_by (own := [("tick", 6)]) (N := ["known", "first", "row", "ends", "press", "presses", "tick", "clashes", "end"]) (sc := defScope s_with_row) (by decide +kernel)) (fun _ _ _ _ _ => pg_name (i := 6) scWr.nd rfl (Or.inl rfl)) (fun _ _ _ _ _ => pts_one (pt_not (pt_val (pe_call (ok_is_behind T) (hr.mono (by decide)) (by rfl) T.g_is_behind (T.F_is_behind).kp T.b_is_behind .nil pass0 (pa_cons (pv 6) (pa_cons (pv 8) pa_nil)))))) (fun _ _ _ _ _ => pe_tup (pa_cons (pv 6) (pa_cons (pe_dget hu (pv 5) (pv 6) (fun _ _ => rfl)) pa_nil)))) pa_nil)) (pa_cons (pv 8) pa_nil))))))))))), ?_⟩
    have sB : Same H H := Same.refl _
    obtain ⟨t, r0, ps, rfl, sq, fz, prs⟩ := hk
    refine ⟨_, rfl, t, _, _, _, rfl, rfl, sq, atI_nat (j := 0) rfl, r0, rfl, ⟨_, fz.sq⟩, fun D hD => ?_⟩
    have hpl := Paired.length prs
    have hkl := ok.len
    have sD := new_same (o := .dK []) hD
    refine dc_tup (xs := ps.map V.ref) (fun i H' => Same H H' ∧ H' D = some (.dK (dk (k.row.take i)))) ⟨sD, upd_same⟩ (fun i H' _ h => (same_tf h.1).sq fz.sq) (fun i x H' hx h => ?_) (fun H3 h => ?_)
    · obtain ⟨sm, hd⟩ := h
      rw [List.getElem?_map] at hx
      cases hp : ps[i]? with
      | none => rw [hp] at hx; cases hx
      | some q =>
        rw [hp] at hx
        cases hx
        obtain ⟨e, he, hq⟩ := paired_at prs hp
        have hi := (List.getElem?_eq_some_iff.mp he).1
        refine ⟨q, _, rfl, (same_tf sm).sq hq, rfl, _, _, rfl, _, _, rfl, rfl, ?_⟩
        refine ⟨rfl, ?_⟩
        dsimp only [tYes]
        rw [if_pos rfl]
        refine ⟨_, rfl, _, rfl, dk (k.row.take i), .inl e.1, rfl, hd, by rw [dk_len, List.length_take]; exact Nat.lt_of_lt_of_le (show min i k.row.length < 1001 by omega) (by decide), fun b o z => ?_, ?_⟩
        · rw [upd_ne (ne_of_none z hD)]
          exact sm _ _ z
        · rw [upd_same, dk_put, put_new, List.take_add_one, he]
          · rfl
          · cases hl : look (k.row.take i) e.1 with
            | none => rfl
            | some w =>
              exfalso
              obtain ⟨j, hj⟩ := List.mem_iff_getElem?.mp (look_mem hl)
              rw [List.getElem?_take] at hj
              split at hj
              · rename_i hji
                have hjl := (List.getElem?_eq_some_iff.mp hj)
                have hil := (List.getElem?_eq_some_iff.mp he)
                have := List.pairwise_iff_getElem.mp ok.asc j i (by unfold keys; rw [List.length_map]; exact hjl.1) (by unfold keys; rw [List.length_map]; exact hi) hji
                unfold keys at this
                rw [List.getElem_map, List.getElem_map, hjl.2, hil.2] at this
                exact absurd this (by show ¬ e.1 < e.1; omega)
              · cases hj
    obtain ⟨s3, hd3⟩ := h
    have hfull : k.row.take (ps.map V.ref).length = k.row := List.take_of_length_le (by rw [List.length_map, hpl]; exact Nat.le_refl _)
    rw [hfull] at hd3
    have tC := same_tf s3
    refine ⟨_, rfl, t, _, _, _, rfl, rfl, tC.sq sq, atI_nat (j := 1) rfl, _, rfl, k.ends, l.ends, rfl, fun L nL => ?_⟩
    rw [show csE k.ends l.ends = cs0 k l from rfl]
    have sL := new_same (o := .lst ((cs0 k l).map V.int)) nL
    have s4 : Same H (upd H3 L (.lst ((cs0 k l).map V.int))) := s3.trans sL
    have hl32 := lo.len
    refine ⟨_, rfl, _, rfl, rr, _, l.first, rfl, rfl, by have := lo.first.1; omega, by have := lo.first.2; omega, (same_tf (sB.trans s4)).sq hrow, ?_⟩
    refine for_it (walk_ity (K := K) (a := rr) (xs := l.row.map V.int) (c := l.first)) (fun i σ H' => ∃ (v4 v6 : Option V) (cs : List Int), σ = [some (.ref t), some (.int l.first), some (.ref rr), some (ov l.ends), v4, some (.ref D), v6, some (.ref L), none] ∧
      H' D = some (.dK (dk (addAll k.row l.first (l.row.take i)))) ∧ H' L = some (.lst (cs.map V.int)) ∧ (∀ x, x ∈ cs ↔ C1 k l x ∨ C2 k l i x) ∧ cs.length ≤ 1 + i ∧ Same H H')
      ⟨_, _, cs0 k l, rfl, sL _ _ hd3, upd_same, cs0_iff k l, cs0_len k l, s4⟩ (fun i σ H' _ h => (same_tf (sB.trans h.choose_spec.choose_spec.choose_spec.2.2.2.2.2)).sq hrow) (fun i x σ H' Hx hi h y => ?_) (fun σ H5 h => ?_)
    · obtain ⟨v4', v6', cs, rfl, hd, hL, hcs, hcl, sm⟩ := h
      obtain ⟨T1, x1, y1, rfl, nT, rfl, hx, hy⟩ := y
      rw [List.length_map] at hi
      replace hy : (l.row.map V.int)[i]? = some y1 := hy
      rw [List.getElem?_map, List.getElem?_eq_getElem hi] at hy
      cases hx
      cases hy
      have hp : l.row[i]? = some l.row[i] := List.getElem?_eq_getElem hi
      have sT := new_same (o := .tup [V.int (l.first + (i : Nat)), V.int l.row[i]]) nT
      have hd' := sT _ _ hd
      have hL' := sT _ _ hL
      have sm' := sm.trans sT
      refine ⟨T1, _, rfl, SqT.of upd_same, rfl, _, _, rfl, _, _, rfl, rfl, ?_⟩
      have hA : addAll k.row l.first (l.row.take (i + 1)) = setr (addAll k.row l.first (l.row.take i)) (l.first + i) l.row[i] := by
        rw [List.take_add_one, hp]
        show addAll k.row l.first (l.row.take i ++ [l.row[i]]) = _
        rw [addAll_snoc, List.length_take, Nat.min_eq_left (by omega)]
      have hlk := look_take (k := k) (l := l) i
      have hlen : (dk (addAll k.row l.first (l.row.take i))).length < sizeLine := by
        rw [dk_len]
        have := len_addAll k.row l.first (l.row.take i)
        rw [List.length_take] at this
        exact Nat.lt_of_lt_of_le (show _ < 1100 by omega) (by decide)
      refine ⟨_, rfl, D, rfl, .inl ⟨_, .inl hd'⟩, _, rfl, _, rfl, _, .inl (l.first + (i : Nat)), hd', rfl, hlen, fun u hu => ?_, fun hn => ?_⟩
      · rw [dk_val, hlk] at hu
        cases hw : look k.row (l.first + (i : Int)) with
        | none => rw [hw] at hu; cases hu
        | some wv =>
          rw [hw] at hu
          cases hu
          have hA2 : addAll k.row l.first (l.row.take (i + 1)) = addAll k.row l.first (l.row.take i) := by
            rw [hA]
            unfold setr
            rw [hlk, hw]
          refine ⟨_, rfl, rfl, _, rfl, ?_⟩
          refine ite2 (fun z => ?_) (fun z => ?_)
          · have hne : wv ≠ l.row[i] := fun e => by
              rw [dec_int, e] at z
              simp at z
            refine ⟨_, rfl, .inl ⟨rfl, _, SqL.of hL'⟩, _, rfl, L, _, _, rfl, rfl, hL', by rw [List.length_map]; exact Nat.lt_of_lt_of_le (show cs.length < 100 by omega) (by decide), ?_⟩
            have nDL : D ≠ L := L2.ne_of hd' hL' (fun z => nomatch z)
            refine ⟨_, _, cs ++ [l.first + (i : Int)], rfl, by rw [upd_ne nDL, hA2]; exact hd', by rw [upd_same, List.map_append]; rfl, fun x => ?_, by rw [List.length_append]; simp; omega, fun b o z => ?_⟩
            · rw [List.mem_append, hcs x, c2_step hp, List.mem_singleton]
              constructor
              · rintro ((h | h) | h)
                · exact .inl h
                · exact .inr (.inl h)
                · exact .inr (.inr ⟨h, wv, by rw [h]; exact hw, hne⟩)
              · rintro (h | h | ⟨h, _⟩)
                · exact .inl (.inl h)
                · exact .inl (.inr h)
                · exact .inr h
            · rw [upd_ne (ne_of_none (s3 _ _ z) nL)]
              exact sm' _ _ z
          · have he : wv = l.row[i] := by
              by_cases e : wv = l.row[i]
              · exact e
              · exfalso
                apply z
                rw [dec_int]
                simpa using e
            refine ⟨_, _, cs, rfl, by rw [hA2]; exact hd', hL', fun x => ?_, by omega, sm'⟩
            rw [hcs x, c2_step hp]
            constructor
            · rintro (h | h)
              · exact .inl h
              · exact .inr (.inl h)
            · rintro (h | h | ⟨h, q, h1, h2⟩)
              · exact .inl h
              · exact .inr h
              · rw [h, hw] at h1
                exact absurd ((Option.some.inj h1).symm.trans he) h2
      · rw [dk_val, hlk] at hn
        have hw : look k.row (l.first + (i : Int)) = none := by
          cases e : look k.row (l.first + (i : Int)) with
          | none => rfl
          | some u => rw [e] at hn; cases hn
        have hA2 : addAll k.row l.first (l.row.take (i + 1)) = addAll k.row l.first (l.row.take i) ++ [(l.first + (i : Int), l.row[i])] := by
          rw [hA]
          unfold setr
          rw [hlk, hw]
        refine ⟨_, rfl, rfl, _, rfl, ?_⟩
        refine ite2 (fun z => absurd z (by simp)) (fun _ => ?_)
        have nLD : L ≠ D := L2.ne_of hL' hd' (fun z => nomatch z)
        refine ⟨_, _, cs, rfl, ?_, by rw [upd_ne nLD]; exact hL', fun x => ?_, by omega, fun b o z => ?_⟩
        · rw [upd_same, dk_put, put_new (by rw [hlk]; exact hw), hA2]
        · rw [hcs x, c2_step hp]
          constructor
          · rintro (h | h)
            · exact .inl h
            · exact .inr (.inl h)
          · rintro (h | h | ⟨h, q, h1, h2⟩)
            · exact .inl h
            · exact .inr h
            · rw [h, hw] at h1
              cases h1
        · rw [upd_ne (ne_of_none z hD)]
          exact sm' _ _ z
    obtain ⟨v4', v6', cs, rfl, hd, hL, hcs, hcl, s5⟩ := h
    rw [List.length_map] at hcs hcl
    have hfl : l.row.take (l.row.map V.int).length = l.row := List.take_of_length_le (by rw [List.length_map]; exact Nat.le_refl _)
    rw [hfl] at hd
    replace hd : H5 D = some (.dK (dk (all k l))) := hd
    have hal : (all k l).length ≤ 1032 := by
      have := len_addAll k.row l.first l.row
      show (addAll k.row l.first l.row).length ≤ 1032
      omega
    have nda := nd_all l ok
    have sq5 := (same_tf s5).sq sq
    refine end_expr (k := k) (l := l) rfl rfl sq5 ?_
    refine ⟨_, rfl, .inl ⟨rfl, _, SqL.of hL⟩, D, .dK (dk (all k l)), hd, trivial, fun od => ⟨_, rfl, D, od, rfl, .inl ⟨_, upd_same, fun D3 hD3 => ?_⟩⟩⟩
    have nD3 : D3 ≠ D := fun z => by rw [z, upd_same] at hD3; cases hD3
    have hD3' : H5 D3 = none := by rw [upd_ne nD3] at hD3; exact hD3
    have nLD : L ≠ D := L2.ne_of hL hd (fun z => nomatch z)
    refine lc_it (walk_keys (d := D) (o := od) (kvs := dk (all k l))) (fun i H' => H' D = some (.frz od (.dK (dk (all k l)))) ∧ H' D3 = some (.lst ((((keys (all k l)).take i).filter (C3 k l)).map V.int)) ∧ ∀ b o, b ≠ D → H5 b = some o → H' b = some o)
      ⟨by rw [upd_ne nD3.symm, upd_same], upd_same, fun b o hb z => by rw [upd_ne (ne_of_none z hD3'), upd_ne hb]; exact z⟩ (fun i H' _ h => h.1) (fun i x H' Hx hi h y => ?_) (fun H6 h => ?_)
    · obtain ⟨hfz, hacc, sm⟩ := h
      obtain ⟨rfl, y, v0, hyv, rfl⟩ := y
      obtain ⟨a, ha, rfl, rfl⟩ := dk_at hyv
      have hla : look (all k l) a.1 = some a.2 := look_of nda (List.mem_of_getElem? ha)
      have hka : (keys (all k l))[i]? = some a.1 := by
        unfold keys
        rw [List.getElem?_map, ha]
        rfl
      have hlk : (keys (all k l)).length = (all k l).length := List.length_map _
      have hfl2 : (((keys (all k l)).take i).filter (C3 k l)).length ≤ 1032 := by
        have h1 := List.length_filter_le (C3 k l) ((keys (all k l)).take i)
        rw [List.length_take, hlk] at h1
        omega
      have step : ((keys (all k l)).take (i + 1)).filter (C3 k l) = ((keys (all k l)).take i).filter (C3 k l) ++ (if C3 k l a.1 = true then [a.1] else []) := by
        rw [List.take_add_one, hka, List.filter_append]
        congr 1
        by_cases e : C3 k l a.1 = true
        · rw [if_pos e]
          simp [e]
        · rw [if_neg e]
          simp [e]
      refine ⟨rfl, ?_⟩
      refine ⟨_, rfl, _, rfl, a.1, ende k l, rfl, _, rfl, ?_⟩
      have skip : C3 k l a.1 = false → (Hx D = some (.frz od (.dK (dk (all k l)))) ∧ Hx D3 = some (.lst ((((keys (all k l)).take (i + 1)).filter (C3 k l)).map V.int)) ∧ ∀ b o, b ≠ D → H5 b = some o → Hx b = some o) := fun e => by
        rw [step, if_neg (by rw [e]; exact Bool.false_ne_true), List.append_nil]
        exact ⟨hfz, hacc, sm⟩
      cases hb : behind (ende k l) a.1 with
      | false =>
        refine iteF (iteF (skip ?_))
        unfold C3
        rw [hb]
        rfl
      | true =>
        refine iteT ⟨_, rfl, _, rfl, D, .int a.2, rfl, .inl ⟨dk (all k l), .inl a.1, .inr ⟨od, hfz⟩, rfl, by rw [dk_val, hla]; rfl⟩, rfl, _, rfl, ?_⟩
        refine ite2 (fun z => ?_) (fun z => ?_)
        · have hC : C3 k l a.1 = true := by
            unfold C3
            rw [hb, hla]
            rw [dec_int] at z
            simpa using z
          refine ⟨_, rfl, _, hacc, by rw [List.length_map]; exact Nat.lt_of_le_of_lt hfl2 (by decide), ?_, ?_, fun b o hb2 z2 => ?_⟩
          · rw [upd_ne nD3.symm]
            exact hfz
          · rw [upd_same, step, if_pos hC, List.map_append]
            rfl
          · rw [upd_ne (ne_of_none z2 hD3')]
            exact sm b o hb2 z2
        · refine skip ?_
          unfold C3
          rw [hb, hla]
          rw [dec_int] at z
          simpa using z
    obtain ⟨hfz, hacc, sm⟩ := h
    rw [dk_len, ← show (keys (all k l)).length = (all k l).length from List.length_map _, List.take_length] at hacc
    have sm5 : Same H5 (upd H6 D (.dK (dk (all k l)))) := fun b o z => by
      by_cases e : b = D
      · subst e
        rw [hd] at z
        cases z
        exact upd_same
      · rw [upd_ne e]
        exact sm b o e z
    refine ⟨hfz, L, D3, _, _, rfl, rfl, sm5 _ _ hL, by rw [upd_ne nD3]; exact hacc, ?_, ?_⟩
    · rw [List.length_map, List.length_map]
      have h1 := List.length_filter_le (C3 k l) (keys (all k l))
      rw [show (keys (all k l)).length = (all k l).length from List.length_map _] at h1
      exact Nat.le_trans (show _ ≤ 2000 by omega) (by decide)
    have hL7 : (upd (upd H6 D (.dK (dk (all k l)))) L (.lst (cs.map V.int ++ ((keys (all k l)).filter (C3 k l)).map V.int))) L = some (.lst ((cs ++ (keys (all k l)).filter (C3 k l)).map V.int)) := by
      rw [upd_same, List.map_append]
    have s7 : Same H (upd (upd H6 D (.dK (dk (all k l)))) L (.lst (cs.map V.int ++ ((keys (all k l)).filter (C3 k l)).map V.int))) := fun b o z => by
      rw [upd_ne (ne_of_none (s3 _ _ z) nL)]
      exact sm5 _ _ (s5 _ _ z)
    have hd7 : (upd (upd H6 D (.dK (dk (all k l)))) L (.lst (cs.map V.int ++ ((keys (all k l)).filter (C3 k l)).map V.int))) D = some (.dK (dk (all k l))) := by
      rw [upd_ne nLD.symm, upd_same]
    generalize (upd (upd H6 D (.dK (dk (all k l)))) L (.lst (cs.map V.int ++ ((keys (all k l)).filter (C3 k l)).map V.int))) = H7 at hL7 s7 hd7 ⊢
    have hcl2 : ∀ x, x ∈ cs ++ (keys (all k l)).filter (C3 k l) ↔ ClP k l x := fun x => by
      rw [List.mem_append, List.mem_filter, hcs x, cl_iff]
    generalize cs ++ (keys (all k l)).filter (C3 k l) = cl at hL7 hcl2
    refine ⟨_, rfl, _, .inl ⟨_, SqL.of hL7, rfl⟩, ?_⟩
    cases cl with
    | cons c0' cl' =>
      refine iteT ⟨_, rfl, L, c0' :: cl', rfl, SqL.of hL7, by simp, fun m hm hmin => ⟨(show 1 ≤ 1000 by decide), ?_⟩⟩
      have hmC := (hcl2 m).mp hm
      have rg := clp_rng ok lo hmC
      exact made c0 (by omega) (fun dx hdx => ke H7 dx m (sB.trans s7) hmC (fun x hx => hmin x ((hcl2 x).mpr hx)) hdx)
    | nil =>
      have noC : ∀ x, ¬ ClP k l x := fun x hx => by
        have := (hcl2 x).mpr hx
        cases this
      refine iteF ?_
      refine ⟨_, rfl, D, dk (all k l), keys (all k l), rfl, .inl hd7, dk_keys _, fun ys p2 perm sorted np2 => ⟨p2, rfl, ⟨_, SqL.of upd_same⟩, fun D4 hD4 => ?_⟩⟩
      have eys := srt_of perm sorted
      have s8 := new_same (o := .lst (ys.map V.int)) np2
      have sD4 := new_same (o := .lst []) hD4
      have hyl : ys.length ≤ 1032 := by
        rw [perm.length_eq, show (keys (all k l)).length = (all k l).length from List.length_map _]
        exact hal
      refine lc_it (walk_list (K := K) (a := p2) (xs := ys.map V.int)) (fun i H' => ∃ qs : List Addr, H' D4 = some (.lst (qs.map V.ref)) ∧ Paired (fun p (e : Int × Int) => SqT K H' p [.int e.1, .int e.2]) qs (((ys.take i).filter fun t => !behind (ende k l) t).map fun t => (t, (look (all k l) t).getD 0)) ∧ Same (upd H7 p2 (.lst (ys.map V.int))) H')
        ⟨[], upd_same, .nil, sD4⟩ (fun i H' _ h => h.choose_spec.2.2.seq (SqL.of upd_same)) (fun i x H' Hx hi h y => ?_) (fun H8 h => ?_)
      · obtain ⟨qs, hacc4, hpr, sm4⟩ := h
        obtain ⟨rfl, hx⟩ := y
        rw [List.length_map] at hi
        rw [List.getElem?_map, List.getElem?_eq_getElem hi] at hx
        cases hx
        have hy0 : ys[i]? = some ys[i] := List.getElem?_eq_getElem hi
        obtain ⟨v0, hv0⟩ := key_look (perm.mem_iff.mp (List.getElem_mem hi))
        have hql : qs.length ≤ 1032 := by
          have h1 := Paired.length hpr
          rw [List.length_map] at h1
          have h2 := List.length_filter_le (fun t => !behind (ende k l) t) (ys.take i)
          rw [List.length_take] at h2
          omega
        have step : ((ys.take (i + 1)).filter fun t => !behind (ende k l) t) = ((ys.take i).filter fun t => !behind (ende k l) t) ++ (if behind (ende k l) ys[i] = true then [] else [ys[i]]) := by
          rw [List.take_add_one, hy0, List.filter_append]
          congr 1
          by_cases e : behind (ende k l) ys[i] = true
          · rw [if_pos e]
            simp [e]
          · rw [if_neg e]
            simp [e]
        refine ⟨rfl, ?_⟩
        refine ⟨_, rfl, _, rfl, ys[i], ende k l, rfl, _, rfl, ?_⟩
        cases hb : behind (ende k l) ys[i] with
        | true =>
          refine iteF ⟨qs, hacc4, ?_, sm4⟩
          rw [step, if_pos hb, List.append_nil]
          exact hpr
        | false =>
          refine iteT ⟨_, rfl, _, rfl, _, rfl, D, .int v0, rfl, .inl ⟨dk (all k l), .inl ys[i], .inl (sm4 _ _ (s8 _ _ hd7)), rfl, by rw [dk_val, hv0]; rfl⟩, (show 2 ≤ sizeLine by decide), fun q nq => ?_⟩
          have sq' := new_same (o := .tup [V.int ys[i], V.int v0]) nq
          have hacc5 := sq' _ _ hacc4
          have tfD := TF.of_lst (o := .lst (qs.map V.ref ++ [V.ref q])) hacc5
          refine ⟨_, hacc5, by rw [List.length_map]; exact Nat.lt_of_le_of_lt hql (by decide), qs ++ [q], ?_, ?_, fun b o z => ?_⟩
          · rw [upd_same, List.map_append]
            rfl
          · rw [step, if_neg (by rw [hb]; exact Bool.false_ne_true), List.map_append]
            refine paired_app (L2.Paired.mapP hpr fun _ _ z => tfD.sq ((same_tf sq').sq z)) (.cons ?_ .nil)
            show SqT K _ q [.int ys[i], .int ((look (all k l) ys[i]).getD 0)]
            rw [hv0]
            exact tfD.sq (SqT.of upd_same)
          · rw [upd_ne (ne_of_none z hD4)]
            exact sq' _ _ (sm4 _ _ z)
      · obtain ⟨qs, hacc4, hpr, sm4⟩ := h
        have hft : ys.take (ys.map V.int).length = ys := List.take_of_length_le (by rw [List.length_map]; exact Nat.le_refl _)
        rw [hft, eys] at hpr
        refine ⟨D4, _, rfl, SqL.of hacc4, fun R ob nR hob => ⟨_, rfl, (show 2 ≤ sizeLine by decide), fun q nq => ?_⟩⟩
        have sR := new_same (o := .frz ob (.tup (qs.map V.ref))) nR
        have sq9 := new_same (o := .tup [V.ref R, ov (ende k l)]) nq
        have sAll := (((sB.trans s7).trans (s8.trans sm4)).trans sR).trans sq9
        exact kq _ (.ref q) sAll noC ⟨q, R, qs, rfl, SqT.of upd_same, ⟨ob, hob, sq9 _ _ upd_same⟩, L2.Paired.mapP hpr fun _ _ z => (same_tf (sR.trans sq9)).sq z⟩
theorem scLr : FnScope ["known", "first", "row", "ends", "press"] ["known", "first", "row", "ends"] (defScope s_learned) := ⟨rfl, rfl, rfl, by decide +kernel, rfl, by decide +kernel, by decide +kernel⟩
theorem ok_learned (T : Txt K w mg) : FnOk P w K mg base (L2.CX P w) 7 (He.fAd K ("learned", none)) (fdAt K (He.fAd K ("learned", none))) ["known", "first", "row", "ends"] (spLrn K) := by
  have c0 := cf_of T.ex
  have tI := tI_of T.ex
  have GI : FnOk P w K mg base CX0 1 (iAd K) (fdAt K (iAd K)) ["self", "value"] (spInit K) := ok_init T
  have bI : Binds K (fdAt K (iAd K)) ["self", "value"] [] := T.b_GameError_init
  refine T.F_learned.ok scLr (fun vs H Q E h => ?_) (fun cdv A outer s H vs Q E hr h => ?_)
  · obtain ⟨v, r, k, l, rfl, _⟩ := h
    rfl
  · obtain ⟨v, r, k, l, rfl, hk, ok, ⟨rr, rfl, hrow⟩, lo, kq, ke⟩ := h
    have hr1 : Room 2 _ := hr.mono (by decide)
    have hu := Nat.lt_of_le_of_lt (Nat.add_le_add_left (by decide : 1 ≤ 64) _) hr.units
    refine ⟨_, (pss_cons (ps_expr (pe_call (ok_need_known T) (hr.mono (by decide)) (by rfl) T.g_need_known (T.F_need_known).kp T.b_need_known .nil pass0 (pa_cons (pe_tup (pa_cons (pv 0) pa_nil)) pa_nil)))
      (pss_cons (ps_for (passes_of rfl) rfl (pi_tup (pv 2)) (pg_name (i := 4) scLr.nd rfl (Or.inl rfl)) (pss_one (ps_if (pt_not (pt_val (pe_call (ok_is_press T) (hr.mono (by decide)) (by rfl) T.g_is_press (T.F_is_press).kp T.b_is_press .nil pass0 (pa_cons (pv 4) pa_nil)))) (pss_one ps_never) pss_nil)))
      (pss_cons (ps_expr (pe_call (ok_need_tick T) (hr.mono (by decide)) (by rfl) T.g_need_tick (T.F_need_tick).kp T.b_need_tick .nil pass0 (pa_cons (pv 1) pa_nil)))
      (pss_cons (ps_if (pt_cmpR op_notN (pv 3) pe_non (nomark _)) (pss_one (ps_expr (pe_call (ok_need_tick T) (hr.mono (by decide)) (by rfl) T.g_need_tick (T.F_need_tick).kp T.b_need_tick .nil pass0 (pa_cons (pv 3) pa_nil)))) pss_nil)
      (pss_one (ps_ret (pe_callS (ok_with_row T) (hr.mono (by decide)) (by rfl) T.g_with_row T.F_with_row.kp T.b_with_row (fun σ => passAt (takes_of rfl rfl rfl rfl) σ) (pa_cons (pv 0) (pa_cons (pv 1) (pa_cons (pv 2) (pa_cons (pv 3) pa_nil))))))))))), ?_⟩
    refine ⟨_, rfl, (show 1 ≤ sizeLine by decide), fun p np => ⟨p, v, k, rfl, SqT.of upd_same, hk.tf (new_same np), ok, fun H1 s1 => ?_⟩⟩
    have sA : Same H H1 := (new_same np).trans s1
    refine ⟨_, rfl, rr, rfl, ⟨_, (same_tf sA).sq hrow⟩, ?_⟩
    refine for_it (walk_tup (K := K) (a := rr) (xs := l.row.map V.int)) (fun i σ H' => (∃ v4, σ = [some v, some (.int l.first), some (.ref rr), some (ov l.ends), v4]) ∧ Same H1 H') ⟨⟨_, rfl⟩, Same.refl _⟩ (fun i σ H' _ h => (same_tf (sA.trans h.2)).sq hrow) (fun i x σ H' H2 hi h y => ?_) (fun σ H2 h => ?_)
    · obtain ⟨⟨v4, rfl⟩, sm⟩ := h
      obtain ⟨rfl, hx⟩ := y
      rw [List.getElem?_map] at hx
      cases hp : l.row[i]? with
      | none => rw [hp] at hx; cases hx
      | some q =>
        rw [hp] at hx
        cases hx
        have hq := lo.rng q (List.mem_of_getElem? hp)
        exact ⟨_, rfl, q, rfl, hq.1, hq.2, true, rfl, iteF ⟨⟨_, rfl⟩, sm⟩⟩
    obtain ⟨⟨v4, rfl⟩, s2⟩ := h
    have sB : Same H H2 := sA.trans s2
    refine ⟨_, rfl, l.first, rfl, lo.first.1, ?_⟩
    refine ends_stmt (e := l.ends) rfl (fun g hg => by have := (lo.ends g hg).1; have := lo.first.1; omega) ?_
    exact ⟨_, rfl, _, rfl, _, rfl, _, rfl, v, .ref rr, k, l, rfl, hk.tf sB, ok, ⟨rr, rfl, (same_tf sB).sq hrow⟩, lo, fun H' x s h1 h2 => kq H' x (sB.trans s) h1 h2, fun H' dx m s h1 h2 h3 => ke H' dx m (sB.trans s) h1 h2 h3⟩
end
end K47
set_option maxRecDepth 100000
set_option maxHeartbeats 4000000
/-! The law's draws. -/
namespace K47
open PySem PySem.Spec PyProof.Rows L2 KF KD
/-! ### great powers -/
def CPowW (i j : Int) : Prop := 0 ≤ j ∧ j ≤ 1000 ∧ i.natAbs < 2 ^ 1000
theorem op_powW {X : Cx} : OpR X (binaryOp .Pow) (rI CPowW fun i j => .int (i ^ j.toNat)) := opI fun i j _ _ _ _ _ hc q => by
  refine PyProof.Rows.pow_int hc.1 ?_ q
  have hb : Builtin.Int.intBits i ≤ 1000 := by
    have h := PySem.Flt.log2_lt_of (by decide) hc.2.2
    unfold Builtin.Int.intBits
    split <;> omega
  have h1 : (Builtin.Int.intBits i : Int) ≤ 1000 := by omega
  have h2 := Int.mul_le_mul h1 hc.2.1 hc.1 (by decide)
  exact Int.le_trans h2 (by decide)
/-- a row of draws at d, good for n more -/
def Dk (H : Hp) (d : Addr) (n : Nat) : Prop := ∃ r m c : Int, H d = some (.lst [.int r, .int m, .int c]) ∧ 0 ≤ m ∧ m < 10000000000000000000000000000000 ∧ 0 ≤ c ∧ c + n ≤ 1000000000000
theorem Dk.le {H : Hp} {d : Addr} {n k : Nat} (h : Dk H d n) (hk : k ≤ n) : Dk H d k := by
  obtain ⟨r, m, c, h0, h1, h2, h3, h4⟩ := h
  exact ⟨r, m, c, h0, h1, h2, h3, by omega⟩
theorem Dk.lst {H : Hp} {d : Addr} {n : Nat} (h : Dk H d n) : ∃ xs, H d = some (.lst xs) := by
  obtain ⟨r, m, c, h0, _⟩ := h
  exact ⟨_, h0⟩
theorem Dk.same {H H' : Hp} {d : Addr} {n : Nat} (h : Dk H d n) (e : Same H H') : Dk H' d n := by
  obtain ⟨r, m, c, h0, h1⟩ := h
  exact ⟨r, m, c, e _ _ h0, h1⟩
section
variable {P : Program} {w : World} {K : PySem.W.Frag} {mg : Str → Option Value} {base : Heap}
/-! ### _law_deck -/
def spDeck (K : PySem.W.Frag) : Sp := fun vs H Q _ => ∃ (a : Addr) (ns : List Int) (k : Nat), vs = [.ref a, .int (k : Int)] ∧ SqL K H a (ns.map V.int) ∧ k ≤ 100 ∧ ∀ l H', Same H H' → H l = none → Dk H' l 900000000000 → Q (.ref l) H'
theorem scD : FnScope ["script", "at", "cell"] ["script", "at"] (defScope s_law_deck) := ⟨rfl, rfl, rfl, by decide +kernel, rfl, by decide +kernel, by decide +kernel⟩
theorem ok_law_deck (T : Txt K w mg) : FnOk P w K mg base CX0 1 (He.fAd K ("_law_deck", none)) (fdAt K (He.fAd K ("_law_deck", none))) ["script", "at"] (spDeck K) := by
  refine T.F_law_deck.ok scD (fun vs H Q E h => ?_) (fun cdv A outer s H vs Q E hr h => ?_)
  · obtain ⟨a, ns, k, rfl, _⟩ := h
    rfl
  · obtain ⟨a, ns, k, rfl, hS, hk, kk⟩ := h
    refine ⟨_, PSs.nox (pss_cons (ps_set (i := 2) scD.nd rfl (Or.inl rfl) (pe_ifExp (pt_cmpR op_lt (pv 1) (pe_callB (r := Evl.rLenS K) call_len_seq (by rfl) T.n_len PyProof.Rows.Boot.«len» (pa_cons (pv 0) pa_nil)) (nomark _)) (pe_callTy call_int1 (by rfl) T.n_int PyProof.Rows.Boot.«int» (pa_cons (pe_ix (r := rIxL K) ix_list (pv 0) (pv 1) (fun _ _ => rfl)) pa_nil)) (pe_op op_mulW pe_int (pe_op op_add (pv 1) pe_int))))
      (pss_one (ps_ret (pe_lst (pa_cons (pe_callB (call_max2 rfl) (by rfl) T.n_max PyProof.Rows.Boot.«max» (pa_cons pe_int (pa_cons (pe_op op_sub (pe_callB call_abs (by rfl) T.n_abs PyProof.Rows.Boot.«abs» (pa_cons (pv 2) pa_nil)) (pe_op op_pow pe_int pe_int)) pa_nil))) (pa_cons (pe_op op_mod (pe_callTy call_int1 (by rfl) T.n_int PyProof.Rows.Boot.«int» (pa_cons (pe_op op_add (pe_op op_mul pe_int (pv 2)) (pe_op op_mulW pe_int (pv 1))) pa_nil)) (pe_op op_add (pe_op op_pow pe_int pe_int) pe_int)) (pa_cons pe_int pa_nil))))))), ?_⟩
    have fin : ∀ (r z : Int) (l : Addr), H l = none → Q (.ref l) (upd H l (.lst [.int r, .int (z % (10 ^ (30 : Int).toNat + 57)), .int 0])) := fun r z l n => by
      have e0 : (10 : Int) ^ (30 : Int).toNat + 57 = 1000000000000000000000000000057 := by decide
      have e1 := Int.emod_nonneg z (show (1000000000000000000000000000057 : Int) ≠ 0 by decide)
      have e2 := Int.emod_lt_of_pos z (show (0 : Int) < 1000000000000000000000000000057 by decide)
      rw [e0]
      exact kk l _ (fun b o e => by rw [upd_ne (ne_of_none e n)]; exact e) n ⟨r, _, _, upd_same, e1, by omega, by omega, by omega⟩
    refine ⟨_, rfl, _, rfl, a, _, rfl, .inl hS, _, _, rfl, rfl, _, rfl, ite2 (fun z => ?_) (fun z => ?_)⟩
    · have hk2 := of_decide_eq_true z
      have hk3 : k < ns.length := by
        rw [List.length_map] at hk2
        omega
      refine ⟨_, rfl, _, rfl, a, _, _, _, rfl, rfl, hS, atI_nat (v := .int ns[k]) (by rw [List.getElem?_map, List.getElem?_eq_getElem hk3]; rfl), .inl ⟨_, rfl, ?_⟩⟩
      refine ⟨_, rfl, _, rfl, _, _, rfl, rfl, ⟨by decide, by decide, by decide⟩, _, _, rfl, rfl, _, _, rfl, ?_⟩
      refine ⟨_, rfl, _, _, rfl, rfl, .inl ⟨by decide, by decide⟩, _, rfl, _, _, rfl, rfl, wide_mul (a := 40) (b := 20) (by decide) (small_ab (by omega) (by rw [pow20]; omega)) (by decide) (by decide) (by decide), _, _, rfl, rfl, .inl ⟨_, rfl, ?_⟩⟩
      exact ⟨_, _, rfl, rfl, ⟨by decide, by decide, by decide⟩, _, _, rfl, rfl, _, _, rfl, rfl, (show (0 : Int) < 10 ^ (30 : Int).toNat + 57 by decide), (show 3 ≤ sizeLine by decide), fun l n => fin _ _ l n⟩
    · refine ⟨_, rfl, _, _, rfl, rfl, _, _, rfl, rfl, wide_mul (a := 40) (b := 20) (by decide) (small_ab (by omega) (by rw [pow20]; omega)) (by decide) (by decide) (by decide), ?_⟩
      refine ⟨_, rfl, _, rfl, _, _, rfl, rfl, ⟨by decide, by decide, by decide⟩, _, _, rfl, rfl, _, _, rfl, ?_⟩
      refine ⟨_, rfl, _, _, rfl, rfl, .inl ⟨by decide, by decide⟩, _, rfl, _, _, rfl, rfl, wide_mul (a := 40) (b := 20) (by decide) (small_ab (by omega) (by rw [pow20]; omega)) (by decide) (by decide) (by decide), _, _, rfl, rfl, .inl ⟨_, rfl, ?_⟩⟩
      exact ⟨_, _, rfl, rfl, ⟨by decide, by decide, by decide⟩, _, _, rfl, rfl, _, _, rfl, rfl, (show (0 : Int) < 10 ^ (30 : Int).toNat + 57 by decide), (show 3 ≤ sizeLine by decide), fun l n => fin _ _ l n⟩
/-! ### _law_draw -/
def spDraw : Sp := fun vs H Q _ => ∃ (d : Addr) (m : Int) (n : Nat), vs = [.ref d, .int m] ∧ 0 < m ∧ m < 1000000000000 ∧ Dk H d (n + 1) ∧ ∀ (x : Int) H', 0 ≤ x → x < m → Frm d H H' → Dk H' d n → Q (.int x) H'
theorem scT : FnScope ["deck", "many", "found", "mixed"] ["deck", "many"] (defScope s_law_draw) := ⟨rfl, rfl, rfl, by decide +kernel, rfl, by decide +kernel, by decide +kernel⟩
theorem p104 : (2 : Int) ^ 104 = 20282409603651670423947251286016 := by decide
theorem ok_law_draw (T : Txt K w mg) : FnOk P w K mg base CX0 1 (He.fAd K ("_law_draw", none)) (fdAt K (He.fAd K ("_law_draw", none))) ["deck", "many"] spDraw := by
  refine T.F_law_draw.ok scT (fun vs H Q E h => ?_) (fun cdv A outer s H vs Q E hr h => ?_)
  · obtain ⟨d, m, n, rfl, _⟩ := h
    rfl
  · obtain ⟨d, m, n, rfl, hm0, hm1, ⟨r, mm, c, hd, a1, a2, a3, a4⟩, k⟩ := h
    refine ⟨_, PSs.nox (pss_cons (ps_if (pt_cmpR op_gt (pe_ix (r := rIxL K) ix_list (pv 0) pe_int (fun _ _ => rfl)) pe_int (nomark _)) (pss_cons (ps_set (i := 2) scT.nd rfl (Or.inl rfl) (pe_op op_mod (pe_callTy call_int1 (by rfl) T.n_int PyProof.Rows.Boot.«int» (pa_cons (pe_ix (r := rIxL K) ix_list (pv 0) pe_int (fun _ _ => rfl)) pa_nil)) (pv 1)))
      (pss_cons (ps_asg (pe_op op_fdivW (pe_ix (r := rIxL K) ix_list (pv 0) pe_int (fun _ _ => rfl)) (pv 1)) (pg_sub (pv 0) pe_int set_list))
      (pss_one (ps_ret (pv 2))))) pss_nil)
      (pss_cons (ps_asg (pe_op op_add (pe_ix (r := rIxL K) ix_list (pv 0) pe_int (fun _ _ => rfl)) pe_int) (pg_sub (pv 0) pe_int set_list))
      (pss_cons (ps_set (i := 3) scT.nd rfl (Or.inl rfl) (pe_op op_mod (pe_callTy call_int1 (by rfl) T.n_int PyProof.Rows.Boot.«int» (pa_cons (pe_op op_powW (pe_op op_add (pe_ix (r := rIxL K) ix_list (pv 0) pe_int (fun _ _ => rfl)) (pe_op op_mulW pe_int (pe_ix (r := rIxL K) ix_list (pv 0) pe_int (fun _ _ => rfl)))) pe_int) pa_nil)) (pe_op op_add (pe_op op_pow pe_int pe_int) pe_int)))
      (pss_cons (ps_set (i := 3) scT.nd rfl (Or.inl rfl) (pe_op op_mod (pe_callTy call_int1 (by rfl) T.n_int PyProof.Rows.Boot.«int» (pa_cons (pe_op op_powW (pe_op op_add (pv 3) (pe_op op_mulW pe_int (pe_ix (r := rIxL K) ix_list (pv 0) pe_int (fun _ _ => rfl)))) pe_int) pa_nil)) (pe_op op_add (pe_op op_pow pe_int pe_int) pe_int)))
      (pss_one (ps_ret (pe_op op_mod (pe_callTy call_int1 (by rfl) T.n_int PyProof.Rows.Boot.«int» (pa_cons (pe_op op_fdivW (pv 3) (pe_op op_pow pe_int pe_int)) pa_nil)) (pv 1)))))))), ?_⟩
    have hW : CDivW 0 m := wide_div hm0 (small_ab (n := 40) (by omega) (by rw [pow40]; omega)) (by decide) (by decide)
    refine ⟨_, rfl, _, _, _, _, rfl, rfl, SqL.of hd, at_of (j := 0) rfl rfl, _, _, rfl, rfl, _, rfl, ite2 (fun z => ?_) (fun z => ?_)⟩
    · refine ⟨_, rfl, _, _, _, _, rfl, rfl, SqL.of hd, at_of (j := 0) rfl rfl, .inl ⟨_, rfl, _, rfl, _, _, rfl, rfl, hm0, ?_⟩⟩
      refine ⟨_, rfl, _, _, _, _, rfl, rfl, SqL.of hd, at_of (j := 0) rfl rfl, _, rfl, _, _, rfl, rfl, hW, _, rfl, _, _, _, 0, rfl, rfl, hd, rfl, _, rfl, ?_⟩
      exact k _ _ (Int.emod_nonneg _ (by omega)) (Int.emod_lt_of_pos _ hm0) Frm.of_upd ⟨_, mm, c, upd_same, a1, a2, a3, by omega⟩
    · have hd1 : (upd H d (.lst [.int r, .int mm, .int (c + 1)])) d = some (.lst [.int r, .int mm, .int (c + 1)]) := upd_same
      refine ⟨_, rfl, _, _, _, _, rfl, rfl, SqL.of hd, at_of (j := 2) rfl rfl, _, _, rfl, rfl, _, rfl, _, _, _, 2, rfl, rfl, hd, rfl, ?_⟩
      have b1 : CMulW 32452843 (c + 1) := wide_mul (a := 40) (b := 40) (by decide) (small_ab (by omega) (by rw [pow40]; omega)) (by decide) (by decide) (by decide)
      have b2 : CMulW 15485863 (c + 1) := wide_mul (a := 40) (b := 40) (by decide) (small_ab (by omega) (by rw [pow40]; omega)) (by decide) (by decide) (by decide)
      have x0a : (mm + 32452843 * (c + 1)).natAbs < 2 ^ 1000 := Nat.lt_of_lt_of_le (small_ab (n := 110) (i := mm + 32452843 * (c + 1)) (by omega) (by rw [show (2 : Int) ^ 110 = 1298074214633706907132624082305024 by decide]; omega)) (Nat.pow_le_pow_right (by decide) (by decide))
      have e34 : (10 : Int) ^ (34 : Int).toNat + 193 = 10000000000000000000000000000000193 := by decide
      have e36 : (10 : Int) ^ (36 : Int).toNat + 159 = 1000000000000000000000000000000000159 := by decide
      refine ⟨_, rfl, _, _, _, _, rfl, rfl, SqL.of hd1, at_of (j := 1) rfl rfl, _, rfl, _, _, _, _, rfl, rfl, SqL.of hd1, at_of (j := 2) rfl rfl, _, _, rfl, rfl, b1, _, _, rfl, rfl, ?_⟩
      refine ⟨_, _, rfl, rfl, ⟨by decide, by decide, x0a⟩, .inl ⟨_, rfl, _, _, rfl, rfl, ⟨by decide, by decide, by decide⟩, _, _, rfl, rfl, _, _, rfl, rfl, (show (0 : Int) < 10 ^ (34 : Int).toNat + 193 by decide), ?_⟩⟩
      obtain ⟨x1, hx1⟩ : ∃ x1, x1 = (mm + 32452843 * (c + 1)) ^ (3 : Int).toNat % (10 ^ (34 : Int).toNat + 193) := ⟨_, rfl⟩
      have y1 := Int.emod_nonneg ((mm + 32452843 * (c + 1)) ^ (3 : Int).toNat) (show (10000000000000000000000000000000193 : Int) ≠ 0 by decide)
      have y2 := Int.emod_lt_of_pos ((mm + 32452843 * (c + 1)) ^ (3 : Int).toNat) (show (0 : Int) < 10000000000000000000000000000000193 by decide)
      rw [← e34] at y1 y2
      show L2.tSeq _ _ _ (List.set _ 3 (some (V.int ((mm + 32452843 * (c + 1)) ^ (3 : Int).toNat % (10 ^ (34 : Int).toNat + 193))))) _
      rw [← hx1] at y1 y2 ⊢
      rw [e34] at y2
      have x1a : (x1 + 15485863 * (c + 1)).natAbs < 2 ^ 1000 := Nat.lt_of_lt_of_le (small_ab (n := 120) (i := x1 + 15485863 * (c + 1)) (by omega) (by rw [show (2 : Int) ^ 120 = 1329227995784915872903807060280344576 by decide]; omega)) (Nat.pow_le_pow_right (by decide) (by decide))
      refine ⟨_, rfl, _, rfl, _, _, _, _, rfl, rfl, SqL.of hd1, at_of (j := 2) rfl rfl, _, _, rfl, rfl, b2, _, _, rfl, rfl, ?_⟩
      refine ⟨_, _, rfl, rfl, ⟨by decide, by decide, x1a⟩, .inl ⟨_, rfl, _, _, rfl, rfl, ⟨by decide, by decide, by decide⟩, _, _, rfl, rfl, _, _, rfl, rfl, (show (0 : Int) < 10 ^ (36 : Int).toNat + 159 by decide), ?_⟩⟩
      refine ⟨_, rfl, _, _, rfl, rfl, ⟨by decide, by decide, by decide⟩, _, _, rfl, rfl, wide_div (b := 30) (by decide) (by decide) (by decide) (by decide), .inl ⟨_, rfl, _, rfl, _, _, rfl, rfl, hm0, ?_⟩⟩
      exact k _ _ (Int.emod_nonneg _ (by omega)) (Int.emod_lt_of_pos _ hm0) Frm.of_upd ⟨r, mm, c + 1, upd_same, a1, a2, by omega, by omega⟩
end
end K47
set_option maxRecDepth 100000
set_option maxHeartbeats 4000000
/-! Equal, and of one kind. -/
namespace KF
open PySem PySem.Spec PyProof.Rows L2
section
variable {X : Cx}
def rNeNil (K : PySem.W.Frag) (c : Bool) : R2 := fun x y H Q => ∃ ds, Dp K H x (.list ds) ∧ Dp K H y (.list []) ∧ PyData.canLayAll0 ds = true ∧ Q (.bl (c == ds.isEmpty)) H
theorem eqv_nil (ds : List PyData) : PyData.eqv (.list ds) (.list []) = ds.isEmpty := by
  cases ds <;> simp [PyData.eqv, PyData.eqvAll]
theorem op_neNil (hu : X.A.units + 64 < cLine) : OpR X (compareOp .NotEq) (rNeNil X.K false) := by
  intro pins s σ H x y v u Q I rx ry h
  obtain ⟨ds, hd, he, hc, q⟩ := h
  obtain ⟨as, r1⟩ := Dp.reads I _ x v hd rx
  obtain ⟨bs, r2⟩ := Dp.reads I _ y u he ry
  have e : (PyData.list []).depth = 1 := by simp [PyData.depth, PyData.depthAll]
  refine SeqAt.compareNe_reads r1 r2 (by simpa [PyData.canLay0] using hc) (by simp [PyData.canLay0, PyData.canLayAll0]) (by rw [e]; have := Nat.min_le_right (PyData.list ds).depth 1; omega) ⟨.bl _, H, I, rfl, ?_⟩
  rw [eqv_nil]
  simpa using q
theorem op_eqNil (hu : X.A.units + 64 < cLine) : OpR X (compareOp .Eq) (rNeNil X.K true) := by
  intro pins s σ H x y v u Q I rx ry h
  obtain ⟨ds, hd, he, hc, q⟩ := h
  obtain ⟨as, r1⟩ := Dp.reads I _ x v hd rx
  obtain ⟨bs, r2⟩ := Dp.reads I _ y u he ry
  have e : (PyData.list []).depth = 1 := by simp [PyData.depth, PyData.depthAll]
  refine SeqAt.compareEq_reads r1 r2 (by simpa [PyData.canLay0] using hc) (by simp [PyData.canLay0, PyData.canLayAll0]) (by rw [e]; have := Nat.min_le_right (PyData.list ds).depth 1; omega) ⟨.bl _, H, I, rfl, ?_⟩
  rw [eqv_nil]
  simpa using q
end
end KF
namespace K47
open PySem PySem.Spec PyProof.Rows L2 KF KD
def AlOk : Nat → PyData → Prop
  | 0, d => match d with
    | .none => True
    | .int _ => True
    | _ => False
  | n + 1, d => match d with
    | .none => True
    | .int _ => True
    | .tuple ds => ds.length ≤ 1100 ∧ NLs ds ∧ ∀ e ∈ ds, AlOk n e
    | _ => False
theorem nl_get' : ∀ {ds : List PyData} {i : Nat}, NLs ds → (h : i < ds.length) → NL ds[i]
  | d :: ds, 0, h, _ => h.1
  | d :: ds, i + 1, h, hi => nl_get' (ds := ds) h.2 (Nat.lt_of_succ_lt_succ hi)
def spSame (K : PySem.W.Frag) (n : Nat) : Sp := fun vs H Q _ => ∃ (v1 v2 : V) (d : PyData), vs = [v1, v2] ∧ Dp K H v1 d ∧ Dp K H v2 d ∧ AlOk n d ∧ ∀ H', Same H H' → Q (.bl true) H'
def spSm (K : PySem.W.Frag) : Nat → Sp
  | 0 => fun _ _ _ _ => False
  | n + 1 => spSame K n
section
variable {P : Program} {w : World} {K : PySem.W.Frag} {mg : Str → Option Value} {base : Heap}
theorem kit_tl_int : PySem.W.kitAny K (.type "int") [.type "tuple", .type "list"] = some false := kitAny_cons (b := false) (kit_ty (by decide +kernel)) (fun _ => kitAny_cons (b := false) (kit_ty (by decide +kernel)) (fun _ => kitAny_nil) (fun z => nomatch z)) (fun z => nomatch z)
theorem kit_tl_non : PySem.W.kitAny K (.type "NoneType") [.type "tuple", .type "list"] = some false := kitAny_cons (b := false) (kit_ty (by decide +kernel)) (fun _ => kitAny_cons (b := false) (kit_ty (by decide +kernel)) (fun _ => kitAny_nil) (fun z => nomatch z)) (fun z => nomatch z)
theorem kit_tl_tup : PySem.W.kitAny K (.type "tuple") [.type "tuple", .type "list"] = some true := kitAny_cons (b := true) (kit_ty (by decide +kernel)) (fun z => nomatch z) (fun _ => rfl)
theorem scSm : FnScope ["told", "due", "kind", "at"] ["told", "due"] (defScope s_law_same) := ⟨rfl, rfl, rfl, by decide +kernel, rfl, by decide +kernel, by decide +kernel⟩
theorem ok_law_same (T : Txt K w mg) : ∀ n : Nat, FnOk P w K mg base CX0 n (He.fAd K ("_law_same", none)) (fdAt K (He.fAd K ("_law_same", none))) ["told", "due"] (spSm K n)
  | 0 => ⟨fun _ _ _ _ z => z.elim, fun _ _ _ _ _ _ _ _ _ _ _ _ _ z => z.elim⟩
  | n + 1 => by
    have G := ok_law_same T n
    refine T.F_law_same.ok scSm (fun vs H Q E h => ?_) (fun cdv A outer s H vs Q E hr h => ?_)
    · obtain ⟨v1, v2, d, rfl, _⟩ := h
      rfl
    · obtain ⟨v1, v2, d, rfl, h1, h2, hp, k⟩ := h
      refine ⟨_, PSs.nox (pss_cons (ps_if (pt_val (pe_callB (r := rIsiT K) call_isiT (by rfl) T.n_isinstance PyProof.Rows.Boot.«isinstance» (pa_cons (pv 1) (pa_cons (pe_tup (pa_cons (pe_bltn (v := .ty "tuple") (by rfl) T.n_tuple PyProof.Rows.Boot.«tuple» rfl) (pa_cons (pe_bltn (v := .ty "list") (by rfl) T.n_list PyProof.Rows.Boot.«list» rfl) pa_nil))) pa_nil)))) (pss_cons (ps_set (i := 2) scSm.nd rfl (Or.inl rfl) (pe_ifExp (pt_val (pe_callB (r := rIsi K) call_isi (by rfl) T.n_isinstance PyProof.Rows.Boot.«isinstance» (pa_cons (pv 1) (pa_cons (pe_bltn (v := .ty "tuple") (by rfl) T.n_tuple PyProof.Rows.Boot.«tuple» rfl) pa_nil)))) (pe_callB (r := rIsi K) call_isi (by rfl) T.n_isinstance PyProof.Rows.Boot.«isinstance» (pa_cons (pv 0) (pa_cons (pe_bltn (v := .ty "tuple") (by rfl) T.n_tuple PyProof.Rows.Boot.«tuple» rfl) pa_nil))) (pe_callB (r := rIsi K) call_isi (by rfl) T.n_isinstance PyProof.Rows.Boot.«isinstance» (pa_cons (pv 0) (pa_cons (pe_bltn (v := .ty "list") (by rfl) T.n_list PyProof.Rows.Boot.«list» rfl) pa_nil)))))
      (pss_cons (ps_if (PW.pt (pw_or (pt_not (pt_val (pv 2))) (pw_or1 (pt_cmpR op_ne (pe_callB (r := Evl.rLenS K) call_len_seq (by rfl) T.n_len PyProof.Rows.Boot.«len» (pa_cons (pv 0) pa_nil)) (pe_callB (r := Evl.rLenS K) call_len_seq (by rfl) T.n_len PyProof.Rows.Boot.«len» (pa_cons (pv 1) pa_nil)) (nomark _))))) (pss_one (ps_ret pe_bl)) pss_nil)
      (pss_one (ps_ret (pe_cmpR (r := rNeNil K true) (op_eqNil hr.units) (pe_lc (own := [("at", 3)]) (g := gName 3) (by rfl) scSm.nd (pi_range1 (by rfl) T.n_range (pa_cons (pe_callB (r := Evl.rLenS K) call_len_seq (by rfl) T.n_len PyProof.Rows.Boot.«len» (pa_cons (pv 1) pa_nil)) pa_nil)) (blkOk_by (own := [("at", 3)]) (N := ["told", "due", "kind", "at"]) (sc := defScope s_law_same) (by decide +kernel)) (fun _ _ _ _ _ => pg_name (i := 3) scSm.nd rfl (Or.inl rfl)) (fun _ _ _ _ _ => pts_one (pt_not (pt_val (pe_call G (hr.mono (by omega)) (by rfl) T.g_law_same (T.F_law_same).kp T.b_law_same .nil pass0 (pa_cons (pe_ix (r := rIxT K) ix_tup (pv 0) (pv 3) (fun _ _ => rfl)) (pa_cons (pe_ix (r := rIxT K) ix_tup (pv 1) (pv 3) (fun _ _ => rfl)) pa_nil)))))) (fun _ _ _ _ _ => (pv 3))) (pe_lst pa_nil) (nomark _)))))) pss_nil)
      (pss_cons (ps_if (pt_cmpR op_isN (pv 1) pe_non (nomark _)) (pss_one (ps_ret (pe_cmpR op_isN (pv 0) pe_non (nomark _)))) pss_nil)
      (pss_one (ps_ret (pe_and (pe_callB (r := rIsi K) call_isi (by rfl) T.n_isinstance PyProof.Rows.Boot.«isinstance» (pa_cons (pv 0) (pa_cons (pe_bltn (v := .ty "int") (by rfl) T.n_int PyProof.Rows.Boot.«int» rfl) pa_nil))) (pe_and (pe_cmpR op_eq (pe_callB (r := rIsi K) call_isi (by rfl) T.n_isinstance PyProof.Rows.Boot.«isinstance» (pa_cons (pv 0) (pa_cons (pe_bltn (v := .ty "bool") (by rfl) T.n_bool PyProof.Rows.Boot.«bool» rfl) pa_nil))) (pe_callB (r := rIsi K) call_isi (by rfl) T.n_isinstance PyProof.Rows.Boot.«isinstance» (pa_cons (pv 1) (pa_cons (pe_bltn (v := .ty "bool") (by rfl) T.n_bool PyProof.Rows.Boot.«bool» rfl) pa_nil))) (nomark _)) (pe_one (pe_cmpR op_eq (pv 0) (pv 1) (nomark _))))))))), ?_⟩
      cases d with
      | none =>
        cases h1
        cases h2
        refine ⟨_, rfl, (show 2 ≤ sizeLine by decide), fun p np => ⟨_, p, _, .type "NoneType", _, _, rfl, upd_same, .cons (.ty _) (.cons (.ty _) .nil), .base .non, kit_tl_non, _, rfl, iteF ?_⟩⟩
        have s1 := new_same (o := .tup [.ty "tuple", .ty "list"]) np
        exact ⟨_, rfl, rfl, _, rfl, ite2 (fun _ => ⟨_, rfl, rfl, k _ s1⟩) (fun z => (z rfl).elim)⟩
      | bool c => cases n <;> exact hp.elim
      | str x => cases n <;> exact hp.elim
      | int i =>
        cases h1
        cases h2
        refine ⟨_, rfl, (show 2 ≤ sizeLine by decide), fun p np => ⟨_, p, _, .type "int", _, _, rfl, upd_same, .cons (.ty _) (.cons (.ty _) .nil), .base (.int i), kit_tl_int, _, rfl, iteF ?_⟩⟩
        have s1 := new_same (o := .tup [.ty "tuple", .ty "list"]) np
        refine ⟨_, rfl, rfl, _, rfl, ite2 (fun z => nomatch (of_decide_eq_true z)) (fun _ => ?_)⟩
        refine ⟨_, rfl, _, _, _, _, _, rfl, .ty "int", .base (.int i), kit_ty (r := true) (by decide +kernel), _, rfl, iteT ?_⟩
        refine ⟨_, rfl, _, _, _, _, _, rfl, .ty "bool", .base (.int i), kit_ty (r := false) (by decide +kernel), _, rfl, _, _, _, _, _, rfl, .ty "bool", .base (.int i), kit_ty (r := false) (by decide +kernel), rfl, _, rfl, iteT ?_⟩
        refine ⟨_, rfl, _, rfl, rfl, ?_⟩
        rw [decide_eq_true (rfl : V.int i = V.int i)]
        exact k _ s1
      | list ds => cases n <;> exact hp.elim
      | dict ds => cases n <;> exact hp.elim
      | tuple ds =>
        cases n with
        | zero => exact hp.elim
        | succ m =>
          cases h1 with
          | @tup p xs _ q1 a1 =>
            cases h2 with
            | @tup q ys _ q2 a2 =>
              have l1 := dpa_len a1
              have l2 := dpa_len a2
              have hlen : ds.length ≤ 1100 := hp.1
              refine ⟨_, rfl, (show 2 ≤ sizeLine by decide), fun pp np => ⟨_, pp, _, .type "tuple", _, _, rfl, upd_same, .cons (.ty _) (.cons (.ty _) .nil), ty_tup ((same_tf (new_same np)).sq q2), kit_tl_tup, _, rfl, iteT ?_⟩⟩
              have s0 := new_same (o := .tup [.ty "tuple", .ty "list"]) np
              have q1 := (same_tf s0).sq q1
              have q2 := (same_tf s0).sq q2
              refine ⟨_, rfl, _, _, _, _, _, rfl, .ty "tuple", ty_tup q2, kit_ty (r := true) (by decide +kernel), _, rfl, iteT ?_⟩
              refine ⟨_, rfl, _, _, _, _, _, rfl, .ty "tuple", ty_tup q1, kit_ty (r := true) (by decide +kernel), ?_⟩
              refine ⟨_, rfl, _, rfl, iteF ?_⟩
              refine ⟨_, rfl, _, _, rfl, .inr q1, _, rfl, _, _, rfl, .inr q2, rfl, _, rfl, ?_⟩
              rw [l1, l2, decide_eq_true (rfl : V.int (ds.length : Int) = V.int (ds.length : Int))]
              refine iteF ?_
              refine ⟨_, rfl, q, ys, rfl, .inr q2, (ys.length : Int), rfl, by omega, by omega, fun D hD => ?_⟩
              have hN : ((ys.length : Int)).toNat = ds.length := by omega
              rw [hN]
              refine lc_range (lo := 0) (n := ds.length) (fun i H' => Same (upd H pp (.tup [.ty "tuple", .ty "list"])) H' ∧ H' D = some (.lst [])) ⟨new_same hD, upd_same⟩ (fun i H' hi hPv => ?_) (fun H' hPv => ?_)
              · obtain ⟨s1, hl⟩ := hPv
                have he : ds[i]? = some ds[i] := List.getElem?_eq_getElem hi
                obtain ⟨v1, e1, d1⟩ := dpa_get a1 he
                obtain ⟨v2, e2, d2⟩ := dpa_get a2 he
                have tf := same_tf s1
                have tf0 := (same_tf s0).trans tf
                have hr2 : AlOk m ds[i] := hp.2.2 _ (List.getElem_mem hi)
                have nl2 : NL ds[i] := nl_get' hp.2.1 hi
                refine ⟨rfl, ?_⟩
                refine ⟨_, rfl, _, rfl, p, xs, _, v1, rfl, rfl, tf.sq q1, at_of (j := i) (by omega) e1, _, rfl, _, rfl, q, ys, _, v2, rfl, rfl, tf.sq q2, at_of (j := i) (by omega) e2, ?_⟩
                exact ⟨v1, v2, ds[i], rfl, dp_nl tf0 _ _ nl2 d1, dp_nl tf0 _ _ nl2 d2, hr2, fun H2 s2 => ⟨true, rfl, iteF ⟨s1.trans s2, s2 _ _ hl⟩⟩⟩
              · obtain ⟨s1, hl⟩ := hPv
                refine ⟨(show 0 ≤ sizeLine by decide), fun E0' nE => ?_⟩
                have sE := new_same (o := .lst []) nE
                refine ⟨[], .lst (SqL.of (sE _ _ hl)) .nil, .lst (SqL.of upd_same) .nil, rfl, ?_⟩
                exact k _ ((s0.trans s1).trans sE)
end
end K47
set_option maxRecDepth 100000
set_option maxHeartbeats 4000000
/-! What is known, drawn; what is known of a tick. -/
namespace K47
open PySem PySem.Spec PyProof.Rows L2 KF KD
theorem at_mem {α : Type} (f : α → V) (xs : List α) {x : Int} (h0 : 0 ≤ x) (h1 : x < xs.length) : ∃ y, y ∈ xs ∧ atI (xs.map f) x = some (f y) := by
  obtain ⟨j, rfl⟩ : ∃ j : Nat, x = (j : Int) := ⟨x.toNat, by omega⟩
  have hj : j < xs.length := by omega
  exact ⟨xs[j], List.getElem_mem hj, atI_nat (by rw [List.getElem?_map, List.getElem?_eq_getElem hj]; rfl)⟩
theorem merge_dk : ∀ (r s : Rw), (keys (s ++ r)).Nodup → mergeK (dk s) (dk r) = dk (s ++ r)
  | [], s, _ => by rw [List.append_nil]; rfl
  | e :: r, s, h => by
    have hn : look s e.1 = none := by
      cases q : look s e.1 with
      | none => rfl
      | some w =>
        exfalso
        unfold keys at h
        rw [List.map_append, List.nodup_append] at h
        exact h.2.2 e.1 (look_key q) e.1 (by simp) rfl
    show mergeK (putK (dk s) (.inl e.1) (.int e.2)) (dk r) = _
    rw [dk_put, put_new hn, merge_dk r (s ++ [(e.1, e.2)]) (by rw [List.append_assoc]; exact h), List.append_assoc]
    rfl
theorem behind_test {i j : Nat} {e : Option Int} {t : Int} {σ : L2.St} {H : Hp} {F : Bool → Hp → Prop} (hi : σ[i]? = some (some (ov e))) (hj : σ[j]? = some (some (.int t))) (h : F (behind e t) H) :
    (tAnd (tTest (tOp (fun x y H Q => y = V.non ∧ Q (V.bl !decide (x = V.non)) H) (tVar i) (tC V.non))) (tTest (tOp (rI0 fun i j => .bl (decide (i ≥ j))) (tVar j) (tVar i)))) σ H F := by
  cases e with
  | none => exact ⟨_, hi, rfl, _, rfl, iteF h⟩
  | some g => exact ⟨_, hi, rfl, _, rfl, iteT ⟨_, hj, _, hi, _, _, rfl, rfl, _, rfl, h⟩⟩
def kr (a b c : Int) (j : Nat) : Int × Int := (0 + (j : Int), (a * (0 + (j : Int)) * (0 + (j : Int)) + b * (0 + (j : Int)) + c) % 64)
def epy (e : Int × Int) : PyData := .tuple [.int e.1, .int e.2]
theorem lay_row : ∀ r : Rw, PyData.canLayAll0 (r.map epy) = true
  | [] => by simp [PyData.canLayAll0]
  | e :: r => by
    simp only [List.map_cons, PyData.canLayAll0, Bool.and_eq_true]
    exact ⟨by simp [epy, PyData.canLay0, PyData.canLayAll0], lay_row r⟩
theorem dpa_row {K : PySem.W.Frag} {H : Hp} : ∀ {ps : List Addr} {r : Rw}, Paired (fun p (e : Int × Int) => SqT K H p [.int e.1, .int e.2]) ps r → DpAll K H (ps.map V.ref) (r.map epy)
  | [], [], .nil => .nil
  | _ :: _, _ :: _, .cons a t => .cons (.tup a (.cons (.int _) (.cons (.int _) .nil))) (dpa_row t)
theorem at_last {xs : List V} {x : V} : atI (xs ++ [x]) (-1) = some x := by
  unfold atI ixN
  rw [if_neg (by decide), if_pos (by rw [List.length_append]; simp; omega)]
  have : ((-1 : Int) + ((xs ++ [x]).length : Nat)).toNat = xs.length := by
    rw [List.length_append]
    simp
    omega
  simp only [Option.bind_some, this]
  simp
theorem paired_last {α β : Type} {F : α → β → Prop} {l : List α} {m : List β} {e : β} (h : Paired F l (m ++ [e])) : ∃ l' x, l = l' ++ [x] ∧ F x e := by
  have hl := Paired.length h
  rw [List.length_append] at hl
  have hlt : m.length < l.length := by simp at hl; omega
  have e1 : l = l.take m.length ++ [l[m.length]] := by
    have e2 := List.take_append_drop m.length l
    have e3 : l.drop m.length = [l[m.length]] := by
      rw [List.drop_eq_getElem_cons hlt]
      congr 1
      apply List.drop_eq_nil_of_le
      simp at hl
      omega
    rw [e3] at e2
    exact e2.symm
  obtain ⟨y, hy, hf⟩ := paired_at h (List.getElem?_eq_getElem hlt)
  rw [List.getElem?_append_right (Nat.le_refl _), Nat.sub_self] at hy
  cases hy
  exact ⟨_, _, e1, hf⟩
theorem nil_or_last {α : Type} (l : List α) : l = [] ∨ ∃ m e, l = m ++ [e] := by
  cases h : l.reverse with
  | nil => exact .inl (List.reverse_eq_nil_iff.mp h)
  | cons e m =>
    right
    refine ⟨m.reverse, e, ?_⟩
    have := congrArg List.reverse h
    rw [List.reverse_reverse] at this
    simpa using this
theorem least_expr {K : PySem.W.Frag} {i : Nat} {σ : L2.St} {H : Hp} {Q : VK} {R : Addr} {ps : List Addr} {r : Rw} {tk : Int} (hv : σ[i]? = some (some (.ref R))) (hR : H R = some (.lst (ps.map V.ref))) (hpr : Paired (fun q (e : Int × Int) => SqT K H q [.int e.1, .int e.2]) ps r) (hasc : (keys r).Pairwise (· < ·))
    (hrg : ∀ e ∈ r, 0 ≤ e.1 ∧ e.1 < tk) (ht : tk ≤ 320) (k : ∀ L0 H', 0 ≤ L0 → L0 ≤ 320 → (∀ e ∈ r, e.1 < L0) → Same H H' → Q (.int L0) H') :
    (tIf (tTest (tOp (rNeNil K false) (tVar i) (tLst tNil))) (tOp (rI0 fun i j => V.int (i + j)) (tOp (rIxT K) (tOp (rIxL K) (tVar i) (tUn (rU fun i => V.int (-i)) (tC (V.int 1)))) (tC (V.int 0))) (tC (V.int 1))) (tC (V.int 0))) σ H Q := by
  refine ⟨_, hv, (show 0 ≤ sizeLine by decide), fun e ne => ?_⟩
  have s1 := new_same (o := .lst []) ne
  have hR1 := s1 _ _ hR
  refine ⟨r.map epy, .lst (SqL.of hR1) (dpa_row (L2.Paired.mapP hpr fun _ _ w => (same_tf s1).sq w)), .lst (SqL.of upd_same) .nil, lay_row r, _, rfl, ?_⟩
  rcases nil_or_last r with rfl | ⟨m, l, rfl⟩
  · refine ite2 (fun z => absurd z (by decide)) (fun _ => ?_)
    exact k 0 _ (by decide) (by decide) (fun e he => nomatch he) s1
  · obtain ⟨ps', q, rfl, hq⟩ := paired_last hpr
    rw [List.map_append] at hR1
    have hl := hrg l (List.mem_append_right _ (List.mem_singleton.mpr rfl))
    refine ite2 (fun _ => ?_) (fun z => absurd (by simp) z)
    refine ⟨_, hv, _, rfl, R, _, _, .ref q, rfl, rfl, SqL.of hR1, at_last, q, _, _, _, rfl, rfl, (same_tf s1).sq hq, atI_nat (j := 0) rfl, _, _, rfl, rfl, ?_⟩
    refine k (l.1 + 1) _ (by omega) (by omega) (fun e he => ?_) s1
    rcases List.mem_append.mp he with he | he
    · unfold keys at hasc
      rw [List.map_append, List.pairwise_append] at hasc
      have := hasc.2.2 e.1 (List.mem_map.mpr ⟨e, he, rfl⟩) l.1 (by simp)
      omega
    · rw [List.mem_singleton.mp he]
      omega
section
variable {P : Program} {w : World} {K : PySem.W.Frag} {mg : Str → Option Value} {base : Heap}
def spPs (K : PySem.W.Frag) : Sp := fun vs H Q _ => ∃ (v : V) (k : Kn) (t : Int), vs = [v, .int t] ∧ KnH K H v k ∧ k.ok ∧ ∀ H', Same H H' → Q (ov (held k t)) H'
theorem scPs : FnScope ["known", "tick", "row", "ends"] ["known", "tick"] (defScope s_law_press) := ⟨rfl, rfl, rfl, by decide +kernel, rfl, by decide +kernel, by decide +kernel⟩
theorem ok_law_press (T : Txt K w mg) : FnOk P w K mg base CX0 1 (He.fAd K ("_law_press", none)) (fdAt K (He.fAd K ("_law_press", none))) ["known", "tick"] (spPs K) := by
  refine T.F_law_press.ok scPs (fun vs H Q E h => ?_) (fun cdv A outer s H vs Q E hr h => ?_)
  · obtain ⟨v, k, t, rfl, _⟩ := h
    rfl
  · obtain ⟨v, k, t, rfl, ⟨kt, r, ps, rfl, sq, fz, prs⟩, ok, kk⟩ := h
    have hu := Nat.lt_of_le_of_lt (Nat.add_le_add_left (by decide : 1 ≤ 64) _) hr.units
    refine ⟨_, PSs.nox (pss_cons (ps_asg (pv 0) (pg_tup (by rfl) (pgs_cons (pg_name (i := 2) scPs.nd rfl (Or.inl rfl)) (pgs_cons (pg_name (i := 3) scPs.nd rfl (Or.inl rfl)) pgs_nil))))
      (pss_cons (ps_if (PW.pt (pw_and (pt_cmpR op_notN (pv 3) pe_non (nomark _)) (pw_and1 (pt_cmpR op_ge (pv 1) (pv 3) (nomark _))))) (pss_one (ps_ret pe_int)) pss_nil)
      (pss_one (ps_ret (pe_dget1 hu (pe_callTy (call_dictFz rfl) (by rfl) T.n_dict PyProof.Rows.Boot.«dict» (pa_cons (pv 2) pa_nil)) (pv 1) ⟨rfl, rfl, rfl, rfl⟩))))), ?_⟩
    refine ⟨_, rfl, kt, _, rfl, sq, rfl, _, _, rfl, _, _, rfl, rfl, ?_⟩
    refine behind_test (e := k.ends) (t := t) rfl rfl ?_
    unfold held at kk
    refine ite2 (fun z => ?_) (fun z => ?_)
    · rw [if_pos z] at kk
      exact kk H (Same.refl H)
    · rw [if_neg z] at kk
      refine ⟨_, rfl, r, ps, dk k.row, rfl, fz, ?_, fun p np => ⟨p, rfl, ?_⟩⟩
      · have : ∀ {l : List Addr} {m : Rw}, Paired (fun p (e : Int × Int) => SqT K H p [.int e.1, .int e.2]) l m → Paired (fun p (kv : L2.Key × V) => SqT K H p [kV kv.1, kv.2]) l (dk m) := fun {l m} h => by
          induction h with
          | nil => exact .nil
          | cons a _ ih => exact .cons a ih
        exact this prs
      · have em : mergeK [] (dk k.row) = dk k.row := merge_dk k.row [] ok.nd
        rw [em]
        refine ⟨.inl ⟨_, .inl upd_same⟩, _, rfl, (look k.row t).map V.int, .inl ⟨dk k.row, .inl t, .inl upd_same, rfl, (dk_val _ _).symm⟩, ?_⟩
        have e : ((look k.row t).map V.int).getD .non = ov (look k.row t) := by cases look k.row t <;> rfl
        rw [e]
        exact kk _ (new_same np)
def spKno (K : PySem.W.Frag) : Sp := fun vs H Q _ => ∃ (d : Addr) (n : Nat), vs = [.ref d] ∧ Dk H d (n + 100) ∧ ∀ v k H', KnH K H' v k → k.ok → Frm d H H' → Dk H' d n → Q v H'
theorem scKo : FnScope ["deck", "a", "b", "c", "many", "row", "tick", "turn", "least"] ["deck"] (defScope s_law_known) := ⟨rfl, rfl, rfl, by decide +kernel, rfl, by decide +kernel, by decide +kernel⟩
theorem ok_law_known (T : Txt K w mg) : FnOk P w K mg base CX0 2 (He.fAd K ("_law_known", none)) (fdAt K (He.fAd K ("_law_known", none))) ["deck"] (spKno K) := by
  refine T.F_law_known.ok scKo (fun vs H Q E h => ?_) (fun cdv A outer s H vs Q E hr h => ?_)
  · obtain ⟨d, n, rfl, _⟩ := h
    rfl
  · obtain ⟨d, n, rfl, hD, kk⟩ := h
    refine ⟨_, PSs.nox (pss_cons (ps_if (pt_cmpR op_eq (pe_call (ok_law_draw T) (hr.mono (by decide)) (by rfl) T.g_law_draw (T.F_law_draw).kp T.b_law_draw .nil pass0 (pa_cons (pv 0) (pa_cons pe_int pa_nil))) pe_int (nomark _)) (pss_cons (ps_asg (pe_tup (pa_cons (pe_call (ok_law_draw T) (hr.mono (by decide)) (by rfl) T.g_law_draw (T.F_law_draw).kp T.b_law_draw .nil pass0 (pa_cons (pv 0) (pa_cons pe_int pa_nil))) (pa_cons (pe_call (ok_law_draw T) (hr.mono (by decide)) (by rfl) T.g_law_draw (T.F_law_draw).kp T.b_law_draw .nil pass0 (pa_cons (pv 0) (pa_cons pe_int pa_nil))) (pa_cons (pe_call (ok_law_draw T) (hr.mono (by decide)) (by rfl) T.g_law_draw (T.F_law_draw).kp T.b_law_draw .nil pass0 (pa_cons (pv 0) (pa_cons pe_int pa_nil))) pa_nil)))) (pg_tup (by rfl) (pgs_cons (pg_name (i := 1) scKo.nd rfl (Or.inr rfl)) (pgs_cons (pg_name (i := 2) scKo.nd rfl (Or.inr rfl)) (pgs_cons (pg_name (i := 3) scKo.nd rfl (Or.inr rfl)) pgs_nil)))))
      (pss_cons (ps_set (i := 4) scKo.nd rfl (Or.inl rfl) (pe_op op_add pe_int (pe_call (ok_law_draw T) (hr.mono (by decide)) (by rfl) T.g_law_draw (T.F_law_draw).kp T.b_law_draw .nil pass0 (pa_cons (pv 0) (pa_cons pe_int pa_nil)))))
      (pss_one (ps_ret (pe_tup (pa_cons (pe_callTy call_tupleFz (by rfl) T.n_tuple PyProof.Rows.Boot.«tuple» (pa_cons (pe_lc (own := [("tick", 6)]) (g := gName 6) (tt := tYes) (by rfl) scKo.nd (pi_range1 (by rfl) T.n_range (pa_cons (pv 4) pa_nil)) (blkOk_by (own := [("tick", 6)]) (N := ["deck", "a", "b", "c", "many", "row", "tick", "turn", "least"]) (sc := defScope s_law_known) (by decide +kernel)) (fun _ _ _ _ _ => pg_name (i := 6) scKo.nd rfl (Or.inl rfl)) (fun _ _ _ _ _ => pts_nil) (fun _ _ _ _ _ => (pe_tup (pa_cons (pv 6) (pa_cons (pe_op op_mod (pe_callTy call_int1 (by rfl) T.n_int PyProof.Rows.Boot.«int» (pa_cons (pe_op op_add (pe_op op_add (pe_op op_mulW (pe_op op_mulW (pv 1) (pv 6)) (pv 6)) (pe_op op_mulW (pv 2) (pv 6))) (pv 3)) pa_nil)) pe_int) pa_nil))))) pa_nil)) (pa_cons (pe_ix (r := rIxL K) ix_list (pe_lst (pa_cons pe_non (pa_cons (pv 4) pa_nil))) (pe_op op_mod (pe_callTy call_int1 (by rfl) T.n_int PyProof.Rows.Boot.«int» (pa_cons (pv 1) pa_nil)) pe_int) (fun _ _ => rfl)) pa_nil))))))) pss_nil)
      (pss_cons (ps_par (i := 5) (j := 6) (by rfl) scKo.nd rfl rfl (by decide) rfl rfl (pa_cons (pe_lst pa_nil) (pa_cons (pe_ix (r := rIxL K) ix_list (pe_lst (pa_cons pe_int (pa_cons pe_int (pa_cons pe_int (pa_cons pe_int (pa_cons pe_int pa_nil)))))) (pe_call (ok_law_draw T) (hr.mono (by decide)) (by rfl) T.g_law_draw (T.F_law_draw).kp T.b_law_draw .nil pass0 (pa_cons (pv 0) (pa_cons pe_int pa_nil))) (fun _ _ => rfl)) pa_nil)) (by rfl))
      (pss_cons (ps_for PassesOwn.never rfl (pi_range1 (by rfl) T.n_range (pa_cons (pe_call (ok_law_draw T) (hr.mono (by decide)) (by rfl) T.g_law_draw (T.F_law_draw).kp T.b_law_draw .nil pass0 (pa_cons (pv 0) (pa_cons pe_int pa_nil))) pa_nil)) (pg_name (i := 7) scKo.nd rfl (Or.inl rfl)) (pss_cons (ps_expr (pe_bm PySem.F.plainAttrs_list PySem.F.slot_list_append PySem.F.type_list_append mt_append (pv 5) (pa_cons (pe_tup (pa_cons (pv 6) (pa_cons (pe_call (ok_law_draw T) (hr.mono (by decide)) (by rfl) T.g_law_draw (T.F_law_draw).kp T.b_law_draw .nil pass0 (pa_cons (pv 0) (pa_cons pe_int pa_nil))) pa_nil))) pa_nil)))
      (pss_one (ps_set (i := 6) scKo.nd rfl (Or.inl rfl) (pe_op op_add (pv 6) (pe_ix (r := rIxL K) ix_list (pe_lst (pa_cons pe_int (pa_cons pe_int (pa_cons pe_int (pa_cons pe_int (pa_cons pe_int (pa_cons pe_int (pa_cons pe_int (pa_cons pe_int (pa_cons pe_int pa_nil)))))))))) (pe_call (ok_law_draw T) (hr.mono (by decide)) (by rfl) T.g_law_draw (T.F_law_draw).kp T.b_law_draw .nil pass0 (pa_cons (pv 0) (pa_cons pe_int pa_nil))) (fun _ _ => rfl)))))))
      (pss_cons (ps_set (i := 8) scKo.nd rfl (Or.inl rfl) (pe_ifExp (pt_cmpR (r := rNeNil K false) (op_neNil hr.units) (pv 5) (pe_lst pa_nil) (nomark _)) (pe_op op_add (pe_ix (r := rIxT K) ix_tup (pe_ix (r := rIxL K) ix_list (pv 5) (pe_un un_neg pe_int) (fun _ _ => rfl)) pe_int (fun _ _ => rfl)) pe_int) pe_int))
      (pss_one (ps_ret (pe_tup (pa_cons (pe_callTy call_tupleFz (by rfl) T.n_tuple PyProof.Rows.Boot.«tuple» (pa_cons (pv 5) pa_nil)) (pa_cons (pe_ix (r := rIxL K) ix_list (pe_lst (pa_cons pe_non (pa_cons pe_non (pa_cons (pv 8) (pa_cons (pe_op op_add (pv 8) (pe_call (ok_law_draw T) (hr.mono (by decide)) (by rfl) T.g_law_draw (T.F_law_draw).kp T.b_law_draw .nil pass0 (pa_cons (pv 0) (pa_cons pe_int pa_nil)))) pa_nil))))) (pe_call (ok_law_draw T) (hr.mono (by decide)) (by rfl) T.g_law_draw (T.F_law_draw).kp T.b_law_draw .nil pass0 (pa_cons (pv 0) (pa_cons pe_int pa_nil))) (fun _ _ => rfl)) pa_nil))))))))), ?_⟩
    refine ⟨_, rfl, d, 8, n + 99, rfl, by decide, by decide, hD, fun x0 H0 _ _ f0 D0 => ⟨rfl, _, rfl, ite2 (fun _ => ?_) (fun _ => ?_)⟩⟩
    · refine ⟨_, rfl, d, 64, n + 98, rfl, by decide, by decide, D0, fun a H1 a0 a1 f1 D1 => ⟨_, rfl, d, 64, n + 97, rfl, by decide, by decide, D1, fun b H2 b0 b1 f2 D2 => ⟨_, rfl, d, 64, n + 96, rfl, by decide, by decide, D2, fun c H3 c0 c1 f3 D3 => ⟨(show 3 ≤ sizeLine by decide), fun p np => ?_⟩⟩⟩⟩
      have f03 := f0.trans (f1.trans (f2.trans f3))
      have s4 := new_same (o := .tup [.int a, .int b, .int c]) np
      refine ⟨p, _, rfl, SqT.of upd_same, rfl, _, _, rfl, _, _, rfl, _, _, rfl, rfl, ?_⟩
      refine ⟨_, rfl, d, 3, n + 95, rfl, by decide, by decide, D3.same s4, fun m H5 m0 m1 f5 D5 => ⟨_, _, rfl, rfl, ?_⟩⟩
      obtain ⟨M, hM⟩ : ∃ M : Nat, M = (398 + m).toNat := ⟨_, rfl⟩
      have hM2 : 398 + m = (M : Int) := by omega
      have hM400 : M ≤ 400 := by omega
      have f05 : Frm d H H5 := (f03.trans (Frm.of_same s4)).trans f5
      refine ⟨_, rfl, 398 + m, rfl, by omega, by omega, fun D hD0 => ?_⟩
      rw [← hM]
      have sD := new_same (o := .lst []) hD0
      refine lc_range (lo := 0) (n := M) (fun i H' => ∃ qs : List Addr, H' D = some (.lst (qs.map V.ref)) ∧ Paired (fun q (e : Int × Int) => SqT K H' q [.int e.1, .int e.2]) qs ((List.range i).map (kr a b c)) ∧ Same H5 H')
        ⟨[], upd_same, .nil, sD⟩ (fun i H' hi h => ?_) (fun H6 h => ?_)
      · obtain ⟨qs, hacc, hpr, sm⟩ := h
        have hql : qs.length = i := by
          have h1 := Paired.length hpr
          rw [List.length_map, List.length_range] at h1
          exact h1
        have q1 : CMulW a (0 + (i : Int)) := wide_mul (a := 20) (b := 20) (small_ab a0 (by rw [pow20]; omega)) (small_ab (by omega) (by rw [pow20]; omega)) (by decide) (by decide) (by decide)
        have q2 : CMulW (a * (0 + (i : Int))) (0 + (i : Int)) := wide_mul (a := 40) (b := 20) (wide_lt (a := 20) (b := 20) (small_ab a0 (by rw [pow20]; omega)) (small_ab (by omega) (by rw [pow20]; omega))) (small_ab (by omega) (by rw [pow20]; omega)) (by decide) (by decide) (by decide)
        have q3 : CMulW b (0 + (i : Int)) := wide_mul (a := 20) (b := 20) (small_ab b0 (by rw [pow20]; omega)) (small_ab (by omega) (by rw [pow20]; omega)) (by decide) (by decide) (by decide)
        refine ⟨rfl, ?_⟩
        dsimp only [tYes]
        rw [if_pos rfl]
        refine ⟨_, rfl, _, rfl, _, rfl, _, _, rfl, rfl, q1, _, rfl, _, _, rfl, rfl, q2, _, rfl, _, rfl, _, _, rfl, rfl, q3, _, _, rfl, rfl, _, rfl, _, _, rfl, rfl, .inl ⟨_, rfl, _, _, rfl, rfl, (by decide : (0 : Int) < 64), (show 2 ≤ sizeLine by decide), fun q nq => ?_⟩⟩
        have sq' := new_same (o := .tup [V.int (0 + (i : Int)), V.int ((a * (0 + (i : Int)) * (0 + (i : Int)) + b * (0 + (i : Int)) + c) % 64)]) nq
        have hacc5 := sq' _ _ hacc
        have tfD := TF.of_lst (o := .lst (qs.map V.ref ++ [V.ref q])) hacc5
        refine ⟨_, hacc5, by rw [List.length_map]; exact Nat.lt_of_lt_of_le (show qs.length < 1000 by omega) (by decide), qs ++ [q], ?_, ?_, fun b o z => ?_⟩
        · rw [upd_same, List.map_append]
          rfl
        · rw [List.range_succ, List.map_append]
          exact paired_app (L2.Paired.mapP hpr fun _ _ z => tfD.sq ((same_tf sq').sq z)) (.cons (tfD.sq (SqT.of upd_same)) .nil)
        · rw [upd_ne (ne_of_none z hD0)]
          exact sq' _ _ (sm _ _ z)
      · obtain ⟨qs, hacc, hpr, sm⟩ := h
        refine ⟨D, _, rfl, SqL.of hacc, fun R ob nR hob => ?_⟩
        have sR := new_same (o := .frz ob (.tup (qs.map V.ref))) nR
        refine ⟨_, rfl, (show 2 ≤ sizeLine by decide), fun L nL => ⟨_, rfl, .inl ⟨_, rfl, _, _, rfl, rfl, (by decide : (0 : Int) < 2), ?_⟩⟩⟩
        have sL := new_same (o := .lst [.non, .int (398 + m)]) nL
        obtain ⟨en, hen, hat⟩ := at_mem ov [none, some (398 + m)] (x := a % 2) (by omega) (by show a % 2 < 2; omega)
        refine ⟨L, _, _, _, rfl, rfl, SqL.of upd_same, hat, (show 2 ≤ sizeLine by decide), fun q nq => ?_⟩
        have sq' := new_same (o := .tup [.ref R, ov en]) nq
        have sAll : Same H5 (upd (upd (upd H6 R (.frz ob (.tup (qs.map V.ref)))) L (.lst [.non, .int (398 + m)])) q (.tup [.ref R, ov en])) := ((sm.trans sR).trans sL).trans sq'
        have hm1 : ∀ e ∈ (List.range M).map (kr a b c), 0 ≤ e.1 ∧ e.1 < (M : Int) ∧ 0 ≤ e.2 ∧ e.2 ≤ 63 := fun e he => by
          obtain ⟨j, hj, rfl⟩ := List.mem_map.mp he
          have := List.mem_range.mp hj
          unfold kr
          refine ⟨by show 0 ≤ 0 + (j : Int); omega, by show 0 + (j : Int) < M; omega, Int.emod_nonneg _ (by decide), ?_⟩
          have := Int.emod_lt_of_pos (a * (0 + (j : Int)) * (0 + (j : Int)) + b * (0 + (j : Int)) + c) (show (0 : Int) < 64 by decide)
          show (a * (0 + (j : Int)) * (0 + (j : Int)) + b * (0 + (j : Int)) + c) % 64 ≤ 63
          omega
        refine kk (.ref q) ⟨(List.range M).map (kr a b c), en⟩ _ ⟨q, R, qs, rfl, SqT.of upd_same, ⟨ob, hob, sq' _ _ (sL _ _ upd_same)⟩, L2.Paired.mapP hpr fun _ _ z => (same_tf ((sR.trans sL).trans sq')).sq z⟩ ⟨?_, fun e he => ?_, fun g hg => ?_⟩ (f05.trans (Frm.of_same sAll)) ((D5.same sAll).le (by omega))
        · unfold keys
          rw [List.map_map, List.pairwise_map]
          exact List.pairwise_lt_range.imp fun {x y} h => by show 0 + (x : Int) < 0 + (y : Int); omega
        · have := hm1 e he
          omega
        · have hg2 : en = some g := hg
          rw [hg2] at hen
          simp at hen
          refine ⟨by omega, by omega, fun e he => ?_⟩
          have := hm1 e he
          omega
    · refine ⟨(show 0 ≤ sizeLine by decide), fun R nR => ⟨(show 5 ≤ sizeLine by decide), fun p np => ⟨_, rfl, d, 5, n + 98, rfl, by decide, by decide, ((D0.same (new_same nR)).same (new_same np)), fun x H2 x0 x1 f2 D2 => ?_⟩⟩⟩
      obtain ⟨tk0, htk, hat⟩ := at_mem V.int [0, 0, 0, 1, 2] x0 (by simpa using x1)
      have hRd : R ≠ d := fun z => by
        obtain ⟨xs, hx⟩ := D0.lst
        rw [z, hx] at nR
        cases nR
      have hpd : p ≠ d := fun z => by
        obtain ⟨xs, hx⟩ := (D0.same (new_same nR)).lst
        rw [z, hx] at np
        cases np
      refine ⟨p, _, _, _, rfl, rfl, SqL.of (f2 p _ hpd upd_same), hat, _, _, rfl, ?_⟩
      have f02 : Frm d H H2 := ((f0.trans (Frm.of_new nR)).trans (Frm.of_new np)).trans f2
      have hR2 : H2 R = some (.lst []) := f2 R _ hRd (new_same np _ _ upd_same)
      have nRH : ∀ b o, b ≠ d → H b = some o → b ≠ R := fun b o hb z e => by
        rw [← e, f0 b o hb z] at nR
        cases nR
      refine ⟨_, rfl, d, 13, n + 97, rfl, by decide, by decide, D2, fun y H3 y0 y1 f3 D3 => ⟨y, rfl, by omega, by omega, ?_⟩⟩
      have htk2 : 0 ≤ tk0 ∧ tk0 ≤ 2 := by
        simp at htk
        omega
      refine for_range (lo := 0) (n := y.toNat) (fun i σ H' => ∃ (v7 : Option V) (tk : Int) (ps : List Addr) (rw_ : Rw), σ = [some (.ref d), none, none, none, none, some (.ref R), some (.int tk), v7, none] ∧ H' R = some (.lst (ps.map V.ref)) ∧ Paired (fun q (e : Int × Int) => SqT K H' q [.int e.1, .int e.2]) ps rw_ ∧ (keys rw_).Pairwise (· < ·) ∧ (∀ e ∈ rw_, 0 ≤ e.1 ∧ e.1 < tk ∧ 0 ≤ e.2 ∧ e.2 ≤ 63) ∧ 0 ≤ tk ∧ tk ≤ 2 + 24 * (i : Int) ∧ rw_.length = i ∧ Frm d H H' ∧ Dk H' d (n + 97 - 2 * i))
        ⟨_, tk0, [], [], rfl, f3 R _ hRd hR2, .nil, .nil, (fun e he => nomatch he), htk2.1, by omega, rfl, f02.trans f3, D3⟩ (fun i σ H' hi h => ?_) (fun σ H4 h => ?_)
      · obtain ⟨v7, tk, ps, rw_, rfl, hR, hpr, hasc, hrg, t0, t1, hlen, fr, DD⟩ := h
        have hi12 : i < 13 := by omega
        have hpl := Paired.length hpr
        refine ⟨_, rfl, .inl ⟨rfl, _, SqL.of hR⟩, _, rfl, _, rfl, d, 64, n + 96 - 2 * i, rfl, by decide, by decide, DD.le (by omega), fun z H5 z0 z1 f5 D5 => ⟨(show 2 ≤ sizeLine by decide), fun q nq => ?_⟩⟩
        have s6 := new_same (o := .tup [.int tk, .int z]) nq
        have hR6 := s6 _ _ (f5 R _ hRd hR)
        refine ⟨R, _, _, rfl, rfl, hR6, by rw [List.length_map]; exact Nat.lt_of_lt_of_le (show ps.length < 100 by omega) (by decide), ?_⟩
        have tR := TF.of_lst (o := .lst (ps.map V.ref ++ [V.ref q])) hR6
        obtain ⟨xs5, hx5⟩ := DD.lst
        have t5 := f5.tf hx5
        have hpr6 := paired_app (L2.Paired.mapP hpr fun _ _ w => tR.sq ((same_tf s6).sq (t5.sq w))) (.cons (tR.sq (SqT.of upd_same)) .nil : Paired (fun q (e : Int × Int) => SqT K _ q [.int e.1, .int e.2]) [q] [(tk, z)])
        have D6 : Dk (upd (upd H5 q (.tup [.int tk, .int z])) R (.lst (ps.map V.ref ++ [V.ref q]))) d (n + 96 - 2 * i) := by
          obtain ⟨r6, m6, c6, e0, e1⟩ := D5.same s6
          exact ⟨r6, m6, c6, by rw [upd_ne hRd.symm]; exact e0, e1⟩
        refine ⟨_, rfl, (show 9 ≤ sizeLine by decide), fun p2 np2 => ⟨_, rfl, d, 9, n + 95 - 2 * i, rfl, by decide, by decide, (D6.same (new_same np2)).le (by omega), fun u H8 u0 u1 f8 D8 => ?_⟩⟩
        obtain ⟨st, hst, hat2⟩ := at_mem V.int [1, 1, 1, 1, 1, 1, 2, 3, 24] u0 (by simpa using u1)
        have hst2 : 1 ≤ st ∧ st ≤ 24 := by
          simp at hst
          omega
        have hp2d : p2 ≠ d := fun w => by
          obtain ⟨xs, hx⟩ := D6.lst
          rw [w, hx] at np2
          cases np2
        refine ⟨p2, _, _, _, rfl, rfl, SqL.of (f8 p2 _ hp2d upd_same), hat2, _, _, rfl, rfl, ?_⟩
        have s7 := new_same (o := .lst [.int 1, .int 1, .int 1, .int 1, .int 1, .int 1, .int 2, .int 3, .int 24]) np2
        obtain ⟨xs8, hx8⟩ := (D6.same s7).lst
        have t8 := f8.tf hx8
        refine ⟨_, tk + st, ps ++ [q], rw_ ++ [(tk, z)], rfl, ?_, L2.Paired.mapP hpr6 fun _ _ w => t8.sq ((same_tf s7).sq w), ?_, fun e he => ?_, by omega, by omega, by rw [List.length_append, hlen]; rfl, ?_, D8.le (by omega)⟩
        · rw [List.map_append]
          exact f8 R _ hRd (s7 _ _ upd_same)
        · unfold keys
          rw [List.map_append, List.pairwise_append]
          refine ⟨hasc, by simp, fun a ha b hb => ?_⟩
          obtain ⟨e, he, rfl⟩ := List.mem_map.mp ha
          simp at hb
          rw [hb]
          exact (hrg e he).2.1
        · rcases List.mem_append.mp he with he | he
          · have := hrg e he
            omega
          · rw [List.mem_singleton.mp he]
            exact ⟨t0, by show tk < tk + st; omega, z0, by show z ≤ 63; omega⟩
        · exact fun b o hb w => f8 b o hb (s7 _ _ (by rw [upd_ne (nRH b o hb w)]; exact s6 _ _ (f5 b o hb (fr b o hb w))))
      · obtain ⟨v7, tk, ps, rw_, rfl, hR, hpr, hasc, hrg, t0, t1, hlen, fr, DD⟩ := h
        have hpl := Paired.length hpr
        have hy : (y.toNat : Int) = y := by omega
        refine least_expr (tk := tk) rfl hR hpr hasc (fun e he => ⟨(hrg e he).1, (hrg e he).2.1⟩) (by omega) (fun L0 H5 l0 l1 hlt s5 => ?_)
        have D5 := DD.same s5
        have hR5 := s5 _ _ hR
        refine ⟨_, rfl, R, _, rfl, SqL.of hR5, fun F ob nF hob => ?_⟩
        have sF := new_same (o := .frz ob (.tup (ps.map V.ref))) nF
        have hFd : F ≠ d := fun w => by
          obtain ⟨xs, hx⟩ := D5.lst
          rw [w, hx] at nF
          cases nF
        refine ⟨_, rfl, _, rfl, _, rfl, d, 40, n + 50, rfl, by decide, by decide, (D5.same sF).le (by omega), fun z H7 z0 z1 f7 D7 => ⟨_, _, rfl, rfl, (show 4 ≤ sizeLine by decide), fun p2 np2 => ⟨_, rfl, d, 4, n + 49, rfl, by decide, by decide, D7.same (new_same np2), fun u H9 u0 u1 f9 D9 => ?_⟩⟩⟩
        obtain ⟨en, hen, hat2⟩ := at_mem ov [none, none, some L0, some (L0 + z)] u0 (by simpa using u1)
        have hp2d : p2 ≠ d := fun w => by
          obtain ⟨xs, hx⟩ := D7.lst
          rw [w, hx] at np2
          cases np2
        have s8 := new_same (o := .lst [.non, .non, .int L0, .int (L0 + z)]) np2
        refine ⟨p2, _, _, _, rfl, rfl, SqL.of (f9 p2 _ hp2d upd_same), hat2, (show 2 ≤ sizeLine by decide), fun q nq => ?_⟩
        have sq' := new_same (o := .tup [.ref F, ov en]) nq
        have f59 : Frm d H5 H9 := ((Frm.of_same sF).trans f7).trans ((Frm.of_same s8).trans f9)
        have hF9 := f9 F _ hFd (s8 _ _ (f7 F _ hFd upd_same))
        obtain ⟨xs5, hx5⟩ := D5.lst
        have t59 : TF H5 H9 := f59.tf hx5
        have hR' : ∀ e ∈ rw_, 0 ≤ e.1 ∧ e.1 < 1000 ∧ 0 ≤ e.2 ∧ e.2 ≤ 63 := fun e he => by
          have := hrg e he
          have := hlt e he
          omega
        refine kk (.ref q) ⟨rw_, en⟩ _ ⟨q, F, ps, rfl, SqT.of upd_same, ⟨ob, hob, sq' _ _ hF9⟩, L2.Paired.mapP hpr fun _ _ w => (same_tf sq').sq (t59.sq ((same_tf s5).sq w))⟩ ⟨hasc, hR', fun g hg => ?_⟩ (((fr.trans (Frm.of_same s5)).trans f59).trans (Frm.of_same sq')) ((D9.same sq').le (by omega))
        have hg2 : en = some g := hg
        rw [hg2] at hen
        simp at hen
        refine ⟨by omega, by omega, fun e he => ?_⟩
        have := hlt e he
        omega
end
end K47
set_option maxRecDepth 100000
set_option maxHeartbeats 4000000
/-! A letter, drawn. -/
namespace KF
open PySem PySem.Spec PyProof.Rows L2
section
variable {X : Cx}
def rNeNilT (K : PySem.W.Frag) (c : Bool) : R2 := fun x y H Q => ∃ ds, Dp K H x (.tuple ds) ∧ Dp K H y (.tuple []) ∧ PyData.canLayAll0 ds = true ∧ Q (.bl (c == ds.isEmpty)) H
theorem eqv_nilT (ds : List PyData) : PyData.eqv (.tuple ds) (.tuple []) = ds.isEmpty := by
  cases ds <;> simp [PyData.eqv, PyData.eqvAll]
theorem op_neNilT (hu : X.A.units + 64 < cLine) : OpR X (compareOp .NotEq) (rNeNilT X.K false) := by
  intro pins s σ H x y v u Q I rx ry h
  obtain ⟨ds, hd, he, hc, q⟩ := h
  obtain ⟨as, r1⟩ := Dp.reads I _ x v hd rx
  obtain ⟨bs, r2⟩ := Dp.reads I _ y u he ry
  have e : (PyData.tuple []).depth = 1 := by simp [PyData.depth, PyData.depthAll]
  refine SeqAt.compareNe_reads r1 r2 (by simpa [PyData.canLay0] using hc) (by simp [PyData.canLay0, PyData.canLayAll0]) (by rw [e]; have := Nat.min_le_right (PyData.tuple ds).depth 1; omega) ⟨.bl _, H, I, rfl, ?_⟩
  rw [eqv_nilT]
  simpa using q
end
end KF
namespace K47
open PySem PySem.Spec PyProof.Rows L2 KF KD
def LtH (K : PySem.W.Frag) (H : Hp) (v : V) (l : Lt) : Prop := ∃ t r : Addr, v = .ref t ∧ SqT K H t [.int l.first, .ref r, ov l.ends] ∧ SqT K H r (l.row.map V.int)
theorem KnH.frm {K : PySem.W.Frag} {H H' : Hp} {v : V} {k : Kn} {d : Addr} {xs : List V} (f : Frm d H H') (hd : H d = some (.lst xs)) (h : KnH K H v k) : KnH K H' v k := by
  obtain ⟨t, r, ps, e, sq, ⟨ob, od, fz⟩, prs⟩ := h
  have tf := f.tf hd
  exact ⟨t, r, ps, e, tf.sq sq, ⟨ob, od, f r _ (fun z => by rw [z, hd] at fz; cases fz) fz⟩, L2.Paired.mapP prs fun _ _ z => tf.sq z⟩
theorem held_rng {k : Kn} (ok : k.ok) {t h : Int} (e : held k t = some h) : 0 ≤ h ∧ h ≤ 63 := by
  unfold held at e
  split at e
  · cases e
    decide
  · have := ok.rng _ (look_mem e)
    exact ⟨this.2.2.1, this.2.2.2⟩
section
variable {P : Program} {w : World} {K : PySem.W.Frag} {mg : Str → Option Value} {base : Heap}
theorem top_expr {k : Kn} {σ : L2.St} {H : Hp} {t r : Addr} {Q : VK} (h1 : σ[1]? = some (some (.ref t))) (sq : SqT K H t [.ref r, ov k.ends]) (q : Q (.int (k.ends.getD 0)) H) :
    (tIf (tTest (tOp (fun x y H Q => y = V.non ∧ Q (V.bl !decide (x = V.non)) H) (tOp (rIxT K) (tVar 1) (tC (V.int 1))) (tC V.non))) (tOp (rIxT K) (tVar 1) (tC (V.int 1))) (tC (V.int 0))) σ H Q := by
  cases hk : k.ends with
  | none =>
    rw [hk] at sq q
    exact ⟨_, h1, t, _, _, _, rfl, rfl, sq, atI_nat (j := 1) rfl, rfl, _, rfl, iteF q⟩
  | some g =>
    rw [hk] at sq q
    exact ⟨_, h1, t, _, _, _, rfl, rfl, sq, atI_nat (j := 1) rfl, rfl, _, rfl, iteT ⟨_, h1, t, _, _, _, rfl, rfl, sq, atI_nat (j := 1) rfl, q⟩⟩
theorem top_stmt {k : Kn} (ok : k.ok) {H : Hp} {t r d : Addr} {ps : List Addr} {D : Ends} {top : Int} (sq : SqT K H t [.ref r, ov k.ends]) (fz : FzT H r (ps.map V.ref)) (prs : Paired (fun p (e : Int × Int) => SqT K H p [.int e.1, .int e.2]) ps k.row) (h0 : 0 ≤ top ∧ top ≤ 1000)
    (q : ∀ tp H', 0 ≤ tp → tp ≤ 1001 → Same H H' → D.nx [some (.ref d), some (.ref t), some (.int tp), none, none, none, none, none, none, none] H') :
    (tIfS (tTest (tOp (rNeNilT K false) (tOp (rIxT K) (tVar 1) (tC (V.int 0))) (tTup tNil)))
        (tAsg (tCB (fun xs H Q => ∃ i j, xs = [V.int i, V.int j] ∧ Q (V.int (if j > i then j else i)) H)
            (tCons (tVar 2) (tCons (tOp (rI0 fun i j => V.int (i + j)) (tOp (rIxT K) (tOp (rIxT K) (tOp (rIxT K) (tVar 1) (tC (V.int 0))) (tUn (rU fun i => V.int (-i)) (tC (V.int 1)))) (tC (V.int 0))) (tC (V.int 1))) tNil)))
          (gName 2)) tNext) D [some (.ref d), some (.ref t), some (.int top), none, none, none, none, none, none, none] H := by
  refine ⟨_, rfl, t, _, _, _, rfl, rfl, sq, atI_nat (j := 0) rfl, (show 0 ≤ sizeLine by decide), fun e ne => ?_⟩
  have s1 := new_same (o := .tup []) ne
  have tf1 := same_tf s1
  refine ⟨k.row.map epy, .tup (tf1.sq fz.sq) (dpa_row (L2.Paired.mapP prs fun _ _ w => tf1.sq w)), .tup (SqT.of upd_same) .nil, lay_row _, _, rfl, ?_⟩
  rcases nil_or_last k.row with hr | ⟨m, l, hr⟩
  · rw [hr]
    refine ite2 (fun z => absurd z (by decide)) (fun _ => ?_)
    exact q top _ h0.1 (by omega) s1
  · rw [hr] at prs
    obtain ⟨ps', p, rfl, hp⟩ := paired_last prs
    have fq := fz.sq (K := K)
    rw [List.map_append] at fq
    have hl := ok.rng l (by rw [hr]; exact List.mem_append_right _ (List.mem_singleton.mpr rfl))
    rw [hr]
    refine ite2 (fun _ => ?_) (fun z => absurd (by simp) z)
    refine ⟨_, rfl, _, rfl, t, _, _, _, rfl, rfl, tf1.sq sq, atI_nat (j := 0) rfl, _, rfl, r, _, _, .ref p, rfl, rfl, tf1.sq fq, at_last, p, _, _, _, rfl, rfl, tf1.sq hp, atI_nat (j := 0) rfl, _, _, rfl, rfl, _, _, rfl, ?_⟩
    exact q (if l.1 + 1 > top then l.1 + 1 else top) _ (by split <;> omega) (by split <;> omega) s1
theorem press_stmt {k : Kn} (ok : k.ok) {H : Hp} {D : Ends} {d : Addr} {n : Nat} {t at_ wr : Int} {a1 a2 a3 a4 a6 a9 : Option V} (hD : Dk H d (n + 1))
    (q : ∀ p H', 0 ≤ p → p ≤ 63 → Frm d H H' → Dk H' d n → D.nx [some (.ref d), a1, a2, a3, a4, some (.int wr), a6, some (.int at_), some (.int p), a9] H') :
    (tIfS (tOr (tTest (tOp (fun x y H Q => y = V.non ∧ Q (V.bl (decide (x = V.non))) H) (tVar 8) (tC V.non))) (tTest (tOp rEq (tVar 7) (tVar 5))))
      (tAsg (tCall spDraw [] E0 (tCons (tVar 0) (tCons (tC (V.int 64)) tNil))) (gName 8)) tNext) D [some (.ref d), a1, a2, a3, a4, some (.int wr), a6, some (.int at_), some (ov (held k t)), a9] H := by
  have dr : (tAsg (tCall spDraw [] E0 (tCons (tVar 0) (tCons (tC (V.int 64)) tNil))) (gName 8)) D [some (.ref d), a1, a2, a3, a4, some (.int wr), a6, some (.int at_), some (ov (held k t)), a9] H :=
    ⟨_, rfl, d, 64, n, rfl, by decide, by decide, hD, fun x H2 x0 x1 f2 D2 => q x H2 x0 (by omega) f2 D2⟩
  cases hh : held k t with
  | none =>
    rw [hh] at dr
    exact ⟨_, rfl, rfl, _, rfl, iteT (iteT dr)⟩
  | some h =>
    rw [hh] at dr
    have rg := held_rng ok hh
    refine ⟨_, rfl, rfl, _, rfl, iteF ⟨_, rfl, _, rfl, rfl, _, rfl, ?_⟩⟩
    exact ite2 (fun _ => dr) (fun _ => q h H rg.1 rg.2 (Frm.refl d H) (hD.le (by omega)))
theorem cut_map {ns : List Int} {lo hi : Option Int} : ∃ ms : List Int, cutV (ns.map V.int) lo hi = ms.map V.int ∧ ms.length ≤ ns.length ∧ ∀ p ∈ ms, p ∈ ns := by
  unfold cutV
  generalize HT.sIx (ns.map V.int).length 0 lo = a
  generalize HT.sIx (ns.map V.int).length (ns.map V.int).length hi - a = b
  refine ⟨(ns.drop a).take b, by rw [List.map_take, List.map_drop], ?_, fun p hp => List.mem_of_mem_drop (List.mem_of_mem_take hp)⟩
  rw [List.length_take, List.length_drop]
  omega
theorem slice_stmt {k : Kn} {H : Hp} {D : Ends} {d R t r : Addr} {n : Nat} {ns : List Int} {first : Int} {a2 a4 a5 a7 a8 a9 : Option V} (sq : ∀ H', Frm d H H' → SqT K H' t [.ref r, ov k.ends]) (hR : H R = some (.lst (ns.map V.int))) (hRd : R ≠ d) (hD : Dk H d (n + 1))
    (q : ∀ (R' : Addr) (ms : List Int) (H' : Hp), H' R' = some (.lst (ms.map V.int)) → R' ≠ d → ms.length ≤ ns.length → (∀ p ∈ ms, p ∈ ns) → Frm d H H' → Dk H' d n → D.nx [some (.ref d), some (.ref t), a2, some (.int first), a4, a5, some (.ref R'), a7, a8, a9] H') :
    (tIfS (tAnd (tTest (tOp (fun x y H Q => y = V.non ∧ Q (V.bl !decide (x = V.non)) H) (tOp (rIxT K) (tVar 1) (tC (V.int 1))) (tC V.non)))
          (tTest (tOp (rI0 fun i j => V.bl (decide (j < i))) (tCall spDraw [] E0 (tCons (tVar 0) (tCons (tC (V.int 4)) tNil))) (tC (V.int 0)))))
        (tAsg (tSl (rSlL K) (tVar 6) tNoPart (tPart (tCB (fun xs H Q => ∃ i j, xs = [V.int i, V.int j] ∧ Q (V.int (if j > i then j else i)) H)
                (tCons (tC (V.int 0)) (tCons (tOp (rI0 fun i j => V.int (i - j)) (tOp (rIxT K) (tVar 1) (tC (V.int 1))) (tVar 3)) tNil)))))
          (gName 6)) tNext) D [some (.ref d), some (.ref t), a2, some (.int first), a4, a5, some (.ref R), a7, a8, a9] H := by
  have sq0 := sq H (Frm.refl d H)
  cases hk : k.ends with
  | none =>
    rw [hk] at sq0
    exact ⟨_, rfl, t, _, _, _, rfl, rfl, sq0, atI_nat (j := 1) rfl, rfl, _, rfl, iteF (iteF (q R ns H hR hRd (Nat.le_refl _) (fun _ h => h) (Frm.refl d H) (hD.le (by omega))))⟩
  | some g =>
    rw [hk] at sq0
    refine ⟨_, rfl, t, _, _, _, rfl, rfl, sq0, atI_nat (j := 1) rfl, rfl, _, rfl, iteT ⟨_, rfl, d, 4, n, rfl, by decide, by decide, hD, fun x H2 x0 x1 f2 D2 => ⟨_, _, rfl, rfl, _, rfl, ?_⟩⟩⟩
    refine ite2 (fun _ => ?_) (fun _ => q R ns H2 (f2 R _ hRd hR) hRd (Nat.le_refl _) (fun _ h => h) f2 D2)
    have sq2 := sq H2 f2
    rw [hk] at sq2
    obtain ⟨ms, em, hl, hm⟩ := @cut_map ns none (some (if g - first > 0 then g - first else 0))
    refine ⟨_, rfl, _, rfl, t, _, _, _, rfl, rfl, sq2, atI_nat (j := 1) rfl, _, rfl, _, _, rfl, rfl, _, _, rfl, _, rfl, R, _, rfl, SqL.of (f2 R _ hRd hR), fun p np => ?_⟩
    rw [em]
    have s3 := new_same (o := .lst (ms.map V.int)) np
    exact q p ms _ upd_same (fun z => by obtain ⟨xs, hx⟩ := D2.lst; rw [z, hx] at np; cases np) hl hm (f2.trans (Frm.of_same s3)) (D2.same s3)
theorem ends_fit {H : Hp} {D : Ends} {R : Addr} {ns : List Int} {first : Int} {e : Option Int} {a0 a1 a2 a4 a5 a7 a8 : Option V} (hR : H R = some (.lst (ns.map V.int)))
    (q : ∀ e' : Option Int, (∀ g, e' = some g → first + ns.length ≤ g ∧ g ≤ 400) → D.nx [a0, a1, a2, some (.int first), a4, a5, some (.ref R), a7, a8, some (ov e')] H) :
    (tIfS (tAnd (tTest (tOp (fun x y H Q => y = V.non ∧ Q (V.bl !decide (x = V.non)) H) (tVar 9) (tC V.non)))
          (tOr (tTest (tOp (rI0 fun i j => V.bl (decide (i < j))) (tVar 9) (tOp (rI0 fun i j => V.int (i + j)) (tVar 3) (tCB (Evl.rLenS K) (tCons (tVar 6) tNil)))))
            (tTest (tOp (rI0 fun i j => V.bl (decide (j < i))) (tVar 9) (tC (V.int 400))))))
        (tAsg (tC V.non) (gName 9)) tNext) D [a0, a1, a2, some (.int first), a4, a5, some (.ref R), a7, a8, some (ov e)] H := by
  have non := q none (fun g h => nomatch h)
  cases e with
  | none => exact ⟨_, rfl, rfl, _, rfl, iteF (iteF non)⟩
  | some g =>
    refine ⟨_, rfl, rfl, _, rfl, iteT ⟨_, rfl, _, rfl, _, rfl, R, _, rfl, .inl (SqL.of hR), _, _, rfl, rfl, _, _, rfl, rfl, _, rfl, ?_⟩⟩
    rw [List.length_map]
    refine ite2 (fun _ => iteT non) (fun z => ?_)
    have z2 : ¬ g < first + (ns.length : Int) := fun w => z (decide_eq_true w)
    refine ⟨_, rfl, _, _, rfl, rfl, _, rfl, ?_⟩
    refine ite2 (fun _ => non) (fun z3 => ?_)
    have z4 : ¬ 400 < g := fun w => z3 (decide_eq_true w)
    exact q (some g) fun g' h => by cases h; omega
def spLet (K : PySem.W.Frag) : Sp := fun vs H Q _ => ∃ (d : Addr) (v : V) (k : Kn) (n : Nat), vs = [.ref d, v] ∧ KnH K H v k ∧ k.ok ∧ Dk H d (n + 100) ∧ ∀ x l H', LtH K H' x l → l.ok → Frm d H H' → Dk H' d n → Q x H'
theorem scLe : FnScope ["deck", "known", "top", "first", "long", "wrong", "row", "at", "press", "ends"] ["deck", "known"] (defScope s_law_letter) := ⟨rfl, rfl, rfl, by decide +kernel, rfl, by decide +kernel, by decide +kernel⟩
theorem ok_law_letter (T : Txt K w mg) : FnOk P w K mg base CX0 2 (He.fAd K ("_law_letter", none)) (fdAt K (He.fAd K ("_law_letter", none))) ["deck", "known"] (spLet K) := by
  refine T.F_law_letter.ok scLe (fun vs H Q E h => ?_) (fun cdv A outer s H vs Q E hr h => ?_)
  · obtain ⟨d, v, k, n, rfl, _⟩ := h
    rfl
  · obtain ⟨d, v, k, n, rfl, hk, ok, hD, kk⟩ := h
    refine ⟨_, PSs.nox (pss_cons (ps_set (i := 2) scLe.nd rfl (Or.inl rfl) (pe_ifExp (pt_cmpR op_notN (pe_ix (r := rIxT K) ix_tup (pv 1) pe_int (fun _ _ => rfl)) pe_non (nomark _)) (pe_ix (r := rIxT K) ix_tup (pv 1) pe_int (fun _ _ => rfl)) pe_int))
      (pss_cons (ps_if (pt_cmpR (r := rNeNilT K false) (op_neNilT hr.units) (pe_ix (r := rIxT K) ix_tup (pv 1) pe_int (fun _ _ => rfl)) (pe_tup pa_nil) (nomark _)) (pss_one (ps_set (i := 2) scLe.nd rfl (Or.inl rfl) (pe_callB (call_max2 rfl) (by rfl) T.n_max PyProof.Rows.Boot.«max» (pa_cons (pv 2) (pa_cons (pe_op op_add (pe_ix (r := rIxT K) ix_tup (pe_ix (r := rIxT K) ix_tup (pe_ix (r := rIxT K) ix_tup (pv 1) pe_int (fun _ _ => rfl)) (pe_un un_neg pe_int) (fun _ _ => rfl)) pe_int (fun _ _ => rfl)) pe_int) pa_nil))))) pss_nil)
      (pss_cons (ps_set (i := 3) scLe.nd rfl (Or.inl rfl) (pe_ix (r := rIxL K) ix_list (pe_lst (pa_cons pe_int (pa_cons (pe_call (ok_law_draw T) (hr.mono (by decide)) (by rfl) T.g_law_draw (T.F_law_draw).kp T.b_law_draw .nil pass0 (pa_cons (pv 0) (pa_cons (pe_op op_add (pv 2) pe_int) pa_nil))) (pa_cons (pe_callB (call_max2 rfl) (by rfl) T.n_max PyProof.Rows.Boot.«max» (pa_cons pe_int (pa_cons (pe_op op_sub (pv 2) (pe_call (ok_law_draw T) (hr.mono (by decide)) (by rfl) T.g_law_draw (T.F_law_draw).kp T.b_law_draw .nil pass0 (pa_cons (pv 0) (pa_cons pe_int pa_nil)))) pa_nil))) pa_nil)))) (pe_call (ok_law_draw T) (hr.mono (by decide)) (by rfl) T.g_law_draw (T.F_law_draw).kp T.b_law_draw .nil pass0 (pa_cons (pv 0) (pa_cons pe_int pa_nil))) (fun _ _ => rfl)))
      (pss_cons (ps_par (i := 4) (j := 5) (by rfl) scLe.nd rfl rfl (by decide) rfl rfl (pa_cons (pe_ix (r := rIxL K) ix_list (pe_lst (pa_cons (pe_call (ok_law_draw T) (hr.mono (by decide)) (by rfl) T.g_law_draw (T.F_law_draw).kp T.b_law_draw .nil pass0 (pa_cons (pv 0) (pa_cons pe_int pa_nil))) (pa_cons (pe_call (ok_law_draw T) (hr.mono (by decide)) (by rfl) T.g_law_draw (T.F_law_draw).kp T.b_law_draw .nil pass0 (pa_cons (pv 0) (pa_cons pe_int pa_nil))) (pa_cons pe_int pa_nil)))) (pe_call (ok_law_draw T) (hr.mono (by decide)) (by rfl) T.g_law_draw (T.F_law_draw).kp T.b_law_draw .nil pass0 (pa_cons (pv 0) (pa_cons pe_int pa_nil))) (fun _ _ => rfl)) (pa_cons (pe_call (ok_law_draw T) (hr.mono (by decide)) (by rfl) T.g_law_draw (T.F_law_draw).kp T.b_law_draw .nil pass0 (pa_cons (pv 0) (pa_cons pe_int pa_nil))) pa_nil)) (by rfl))
      (pss_cons (ps_par (i := 3) (j := 6) (by rfl) scLe.nd rfl rfl (by decide) rfl rfl (pa_cons (pe_callB (call_min2 rfl) (by rfl) T.n_min PyProof.Rows.Boot.«min» (pa_cons (pv 3) (pa_cons pe_int pa_nil))) (pa_cons (pe_lst pa_nil) pa_nil)) (by rfl))
      (pss_cons (ps_for PassesOwn.never rfl (pi_range1 (by rfl) T.n_range (pa_cons (pe_callB (call_min2 rfl) (by rfl) T.n_min PyProof.Rows.Boot.«min» (pa_cons (pv 4) (pa_cons (pe_op op_sub pe_int (pv 3)) pa_nil))) pa_nil)) (pg_name (i := 7) scLe.nd rfl (Or.inl rfl)) (pss_cons (ps_set (i := 8) scLe.nd rfl (Or.inl rfl) (pe_call (ok_law_press T) (hr.mono (by decide)) (by rfl) T.g_law_press (T.F_law_press).kp T.b_law_press .nil pass0 (pa_cons (pv 1) (pa_cons (pe_op op_add (pv 3) (pv 7)) pa_nil))))
      (pss_cons (ps_if (PW.pt (pw_or (pt_cmpR op_isN (pv 8) pe_non (nomark _)) (pw_or1 (pt_cmpR op_eq (pv 7) (pv 5) (nomark _))))) (pss_one (ps_set (i := 8) scLe.nd rfl (Or.inl rfl) (pe_call (ok_law_draw T) (hr.mono (by decide)) (by rfl) T.g_law_draw (T.F_law_draw).kp T.b_law_draw .nil pass0 (pa_cons (pv 0) (pa_cons pe_int pa_nil))))) pss_nil)
      (pss_one (ps_expr (pe_bm PySem.F.plainAttrs_list PySem.F.slot_list_append PySem.F.type_list_append mt_append (pv 6) (pa_cons (pv 8) pa_nil)))))))
      (pss_cons (ps_if (PW.pt (pw_and (pt_cmpR op_notN (pe_ix (r := rIxT K) ix_tup (pv 1) pe_int (fun _ _ => rfl)) pe_non (nomark _)) (pw_and1 (pt_cmpR op_gt (pe_call (ok_law_draw T) (hr.mono (by decide)) (by rfl) T.g_law_draw (T.F_law_draw).kp T.b_law_draw .nil pass0 (pa_cons (pv 0) (pa_cons pe_int pa_nil))) pe_int (nomark _))))) (pss_one (ps_set (i := 6) scLe.nd rfl (Or.inl rfl) (pe_slice sl_list (pv 6) po_none (po_some (pe_callB (call_max2 rfl) (by rfl) T.n_max PyProof.Rows.Boot.«max» (pa_cons pe_int (pa_cons (pe_op op_sub (pe_ix (r := rIxT K) ix_tup (pv 1) pe_int (fun _ _ => rfl)) (pv 3)) pa_nil))))))) pss_nil)
      (pss_cons (ps_set (i := 9) scLe.nd rfl (Or.inl rfl) (pe_ix (r := rIxL K) ix_list (pe_lst (pa_cons pe_non (pa_cons (pe_ix (r := rIxT K) ix_tup (pv 1) pe_int (fun _ _ => rfl)) (pa_cons (pe_ix (r := rIxT K) ix_tup (pv 1) pe_int (fun _ _ => rfl)) (pa_cons (pe_op op_add (pv 3) (pe_callB (r := Evl.rLenS K) call_len_seq (by rfl) T.n_len PyProof.Rows.Boot.«len» (pa_cons (pv 6) pa_nil))) (pa_cons (pe_op op_add (pe_op op_add (pv 3) (pe_callB (r := Evl.rLenS K) call_len_seq (by rfl) T.n_len PyProof.Rows.Boot.«len» (pa_cons (pv 6) pa_nil))) (pe_call (ok_law_draw T) (hr.mono (by decide)) (by rfl) T.g_law_draw (T.F_law_draw).kp T.b_law_draw .nil pass0 (pa_cons (pv 0) (pa_cons pe_int pa_nil)))) pa_nil)))))) (pe_call (ok_law_draw T) (hr.mono (by decide)) (by rfl) T.g_law_draw (T.F_law_draw).kp T.b_law_draw .nil pass0 (pa_cons (pv 0) (pa_cons pe_int pa_nil))) (fun _ _ => rfl)))
      (pss_cons (ps_if (PW.pt (pw_and (pt_cmpR op_notN (pv 9) pe_non (nomark _)) (pw_and1 (PW.pt (pw_or (pt_cmpR op_lt (pv 9) (pe_op op_add (pv 3) (pe_callB (r := Evl.rLenS K) call_len_seq (by rfl) T.n_len PyProof.Rows.Boot.«len» (pa_cons (pv 6) pa_nil))) (nomark _)) (pw_or1 (pt_cmpR op_gt (pv 9) pe_int (nomark _)))))))) (pss_one (ps_set (i := 9) scLe.nd rfl (Or.inl rfl) pe_non)) pss_nil)
      (pss_one (ps_ret (pe_tup (pa_cons (pv 3) (pa_cons (pe_callTy call_tuple_of (by rfl) T.n_tuple PyProof.Rows.Boot.«tuple» (pa_cons (pv 6) pa_nil)) (pa_cons (pv 9) pa_nil))))))))))))))), ?_⟩
    obtain ⟨t, r, ps, rfl, sq, fz, prs⟩ := hk
    refine top_expr (k := k) rfl sq ?_
    have htop : 0 ≤ k.ends.getD 0 ∧ k.ends.getD 0 ≤ 1000 := by
      cases e : k.ends with
      | none => decide
      | some g =>
        have := ok.ends g e
        exact ⟨this.1, this.2.1⟩
    refine top_stmt ok sq fz prs htop (fun tp H1 t0 t1 s1 => ?_)
    have D1 := hD.same s1
    refine ⟨_, rfl, _, rfl, _, _, rfl, rfl, d, tp + 2, n + 99, rfl, by omega, by omega, D1, fun f0 H2 f00 f01 fr2 D2 => ⟨_, rfl, _, rfl, d, 6, n + 98, rfl, by decide, by decide, D2, fun y H3 y0 y1 fr3 D3 => ⟨_, _, rfl, rfl, _, _, rfl, (show 3 ≤ sizeLine by decide), fun p np => ⟨_, rfl, d, 3, n + 97, rfl, by decide, by decide, D3.same (new_same np), fun u H5 u0 u1 fr5 D5 => ?_⟩⟩⟩⟩
    obtain ⟨fv, hfv, hat⟩ := at_mem V.int [0, f0, if tp - y > 0 then tp - y else 0] u0 (by simpa using u1)
    have nD : ∀ {H' : Hp} {p : Addr} {m : Nat}, Dk H' d m → H' p = none → p ≠ d := fun {H' p m} DD np z => by
      obtain ⟨xs, hx⟩ := DD.lst
      rw [z, hx] at np
      cases np
    have hpd := nD D3 np
    have s4 := new_same (o := .lst [.int 0, .int f0, .int (if tp - y > 0 then tp - y else 0)]) np
    refine ⟨p, _, _, _, rfl, rfl, SqL.of (fr5 p _ hpd upd_same), hat, ?_⟩
    have hfv0 : 0 ≤ fv := by
      simp only [List.mem_cons, List.not_mem_nil, or_false] at hfv
      rcases hfv with e | e | e
      · omega
      · omega
      · rw [e]
        split <;> omega
    have F5 : Frm d H H5 := (((Frm.of_same s1).trans fr2).trans fr3).trans ((Frm.of_same s4).trans fr5)
    refine ⟨_, rfl, d, 9, n + 96, rfl, by decide, by decide, D5, fun l0 H6 l00 l01 fr6 D6 => ⟨_, rfl, d, 3, n + 95, rfl, by decide, by decide, D6, fun l1 H7 l10 l11 fr7 D7 => ⟨(show 3 ≤ sizeLine by decide), fun p2 np2 => ⟨_, rfl, d, 3, n + 94, rfl, by decide, by decide, D7.same (new_same np2), fun u2 H9 u20 u21 fr9 D9 => ?_⟩⟩⟩⟩
    obtain ⟨lv, hlv, hat2⟩ := at_mem V.int [l0, l1, 32] u20 (by simpa using u21)
    have hlv2 : 0 ≤ lv ∧ lv ≤ 32 := by
      simp only [List.mem_cons, List.not_mem_nil, or_false] at hlv
      omega
    have s8 := new_same (o := .lst [.int l0, .int l1, .int 32]) np2
    refine ⟨p2, _, _, _, rfl, rfl, SqL.of (fr9 p2 _ (nD D7 np2) upd_same), hat2, ?_⟩
    refine ⟨_, rfl, d, 24, n + 93, rfl, by decide, by decide, D9, fun wr H10 w0 w1 fr10 D10 => ⟨_, _, rfl, ?_⟩⟩
    have F10 : Frm d H H10 := F5.trans ((fr6.trans fr7).trans (((Frm.of_same s8).trans fr9).trans fr10))
    refine ⟨_, rfl, _, _, rfl, (show 0 ≤ sizeLine by decide), fun R nR => ⟨_, _, rfl, ?_⟩⟩
    have sR := new_same (o := .lst []) nR
    have hRd := nD D10 nR
    obtain ⟨fi, hfi⟩ : ∃ fi : Int, fi = if (400 : Int) < fv then 400 else fv := ⟨_, rfl⟩
    have hfi2 : 0 ≤ fi ∧ fi ≤ 400 := by
      rw [hfi]
      split <;> omega
    rw [← hfi]
    refine ⟨_, rfl, _, rfl, _, _, rfl, rfl, _, _, rfl, _, rfl, ?_⟩
    obtain ⟨N, hN⟩ : ∃ N : Nat, N = (if 400 - fi < lv then 400 - fi else lv).toNat := ⟨_, rfl⟩
    have hN2 : N ≤ 32 ∧ fi + (N : Int) ≤ 400 := by
      rw [hN]
      split <;> omega
    obtain ⟨xsH, hxH⟩ := hD.lst
    have hk0 : KnH K H (.ref t) k := ⟨t, r, ps, rfl, sq, fz, prs⟩
    have nRH : ∀ b o, b ≠ d → H b = some o → b ≠ R := fun b o hb z e => by
      rw [← e, F10 b o hb z] at nR
      cases nR
    refine ⟨by split <;> omega, by split <;> omega, ?_⟩
    rw [← hN]
    refine for_range (lo := 0) (n := N) (fun i σ H' => ∃ (v7 v8 : Option V) (ns : List Int), σ = [some (.ref d), some (.ref t), some (.int tp), some (.int fi), some (.int lv), some (.int wr), some (.ref R), v7, v8, none] ∧ H' R = some (.lst (ns.map V.int)) ∧ ns.length = i ∧ (∀ p ∈ ns, 0 ≤ p ∧ p ≤ 63) ∧ Frm d H H' ∧ Dk H' d (n + 93 - i))
      ⟨_, _, [], rfl, upd_same, rfl, (fun p hp => nomatch hp), F10.trans (Frm.of_same sR), D10.same sR⟩ (fun i σ H' hi h => ?_) (fun σ H11 h => ?_)
    · obtain ⟨v7, v8, ns, rfl, hR, hlen, hrg, fr, DD⟩ := h
      refine ⟨_, rfl, _, rfl, _, rfl, _, _, rfl, rfl, .ref t, k, _, rfl, hk0.frm fr hxH, ok, fun H2 s2 => ?_⟩
      refine press_stmt ok (n := n + 92 - i) ((DD.same s2).le (by omega)) (fun p H3 p0 p1 f3 D3 => ?_)
      have hR3 := f3 R _ hRd (s2 _ _ hR)
      refine ⟨_, rfl, .inl ⟨rfl, _, SqL.of hR3⟩, _, rfl, R, _, _, rfl, rfl, hR3, by rw [List.length_map]; exact Nat.lt_of_lt_of_le (show ns.length < 100 by omega) (by decide), ?_⟩
      refine ⟨_, _, ns ++ [p], rfl, by rw [upd_same, List.map_append]; rfl, by rw [List.length_append, hlen]; rfl, fun q hq => ?_, fun b o hb z => ?_, ?_⟩
      · rcases List.mem_append.mp hq with hq | hq
        · exact hrg q hq
        · rw [List.mem_singleton.mp hq]
          exact ⟨p0, p1⟩
      · rw [upd_ne (nRH b o hb z)]
        exact f3 b o hb (s2 _ _ (fr b o hb z))
      · obtain ⟨r6, m6, c6, e0, e1⟩ := D3.le (show n + 93 - (i + 1) ≤ n + 92 - i by omega)
        exact ⟨r6, m6, c6, by rw [upd_ne hRd.symm]; exact e0, e1⟩
    obtain ⟨v7, v8, ns, rfl, hR, hlen, hrg, fr, DD⟩ := h
    refine slice_stmt (k := k) (n := n + 50) (fun H' f => ((fr.trans f).tf hxH).sq sq) hR hRd (DD.le (by omega)) (fun R' ms H12 hR' hRd' hml hmm f12 D12 => ?_)
    have F12 := fr.trans f12
    have sq12 := (F12.tf hxH).sq sq
    refine ⟨_, rfl, t, _, _, _, rfl, rfl, sq12, atI_nat (j := 1) rfl, _, rfl, t, _, _, _, rfl, rfl, sq12, atI_nat (j := 1) rfl, _, rfl, _, rfl, R', _, rfl, .inl (SqL.of hR'), _, _, rfl, rfl, _, rfl, _, rfl, R', _, rfl, .inl (SqL.of hR'), _, _, rfl, rfl, _, rfl, d, 30, n + 49, rfl, by decide, by decide, D12, fun z H13 z0 z1 f13 D13 => ⟨_, _, rfl, rfl, (show 5 ≤ sizeLine by decide), fun p3 np3 => ⟨_, rfl, d, 5, n + 48, rfl, by decide, by decide, D13.same (new_same np3), fun u3 H15 u30 u31 f15 D15 => ?_⟩⟩⟩
    obtain ⟨en, hen, hat3⟩ := at_mem ov [none, k.ends, k.ends, some (fi + ((ms.map V.int).length : Nat)), some (fi + ((ms.map V.int).length : Nat) + z)] u30 (by simpa using u31)
    have hp3d := nD D13 np3
    refine ⟨p3, _, _, _, rfl, rfl, SqL.of (f15 p3 _ hp3d upd_same), hat3, ?_⟩
    have s14 := new_same (o := .lst [.non, ov k.ends, ov k.ends, .int (fi + ((ms.map V.int).length : Nat)), .int (fi + ((ms.map V.int).length : Nat) + z)]) np3
    have hR15 := f15 R' _ hRd' (s14 _ _ (f13 R' _ hRd' hR'))
    refine ends_fit hR15 (fun e' he' => ?_)
    refine ⟨_, rfl, _, rfl, R', _, rfl, .inl ⟨SqL.of hR15, fun F nF => ⟨_, rfl, (show 3 ≤ sizeLine by decide), fun q nq => ?_⟩⟩⟩
    have sF := new_same (o := .tup (ms.map V.int)) nF
    have sq' := new_same (o := .tup [.int fi, .ref F, ov e']) nq
    have F15 := F12.trans (f13.trans ((Frm.of_same s14).trans f15))
    refine kk (.ref q) ⟨fi, ms, e'⟩ _ ⟨q, F, rfl, SqT.of upd_same, (same_tf sq').sq (SqT.of upd_same)⟩ ⟨hfi2, by show ms.length ≤ 32; omega, by show fi + (ms.length : Int) ≤ 400; omega, fun p hp => hrg p (hmm p hp), fun g hg => ?_⟩ (F15.trans (Frm.of_same (sF.trans sq'))) (((D15.same sF).same sq').le (by omega))
    exact he' g hg
end
end K47
set_option maxRecDepth 100000
set_option maxHeartbeats 4000000
/-! What is due of a letter. -/
namespace K47
open PySem PySem.Spec PyProof.Rows L2 KF KD
section
variable {P : Program} {w : World} {K : PySem.W.Frag} {mg : Str → Option Value} {base : Heap}
theorem dpa_ints {H : Hp} : ∀ ns : List Int, DpAll K H (ns.map V.int) (ns.map PyData.int)
  | [] => .nil
  | n :: ns => .cons (.int n) (dpa_ints ns)
theorem lay_ints : ∀ ns : List Int, PyData.canLayAll0 (ns.map PyData.int) = true
  | [] => by simp [PyData.canLayAll0]
  | n :: ns => by
    simp only [List.map_cons, PyData.canLayAll0, Bool.and_eq_true]
    exact ⟨by simp [PyData.canLay0], lay_ints ns⟩
theorem due_end {k : Kn} {l : Lt} {σ : L2.St} {H : Hp} {Q : VK} (h3 : σ[3]? = some (some (ov l.ends))) (h5 : σ[5]? = some (some (ov k.ends))) (q : Q (ov (ende k l)) H) :
    (tIf (tTest (tOp (fun x y H Q => y = V.non ∧ Q (V.bl (decide (x = V.non))) H) (tVar 5) (tC V.non))) (tVar 3) (tVar 5)) σ H Q := by
  unfold ende at q
  cases hk : k.ends with
  | none =>
    rw [hk] at h5 q
    exact ⟨_, h5, rfl, _, rfl, iteT ⟨_, h3, q⟩⟩
  | some g =>
    rw [hk] at h5 q
    exact ⟨_, h5, rfl, _, rfl, iteF ⟨_, h5, q⟩⟩
theorem end_test {i j : Nat} {e : Option Int} {t : Int} {σ : L2.St} {H : Hp} {F : Bool → Hp → Prop} (hi : σ[i]? = some (some (ov e))) (hj : σ[j]? = some (some (.int t))) (h : F (!behind e t) H) :
    (tOr (tTest (tOp (fun x y H Q => y = V.non ∧ Q (V.bl (decide (x = V.non))) H) (tVar i) (tC V.non))) (tTest (tOp (rI0 fun i j => V.bl (decide (i < j))) (tVar j) (tVar i)))) σ H F := by
  cases e with
  | none => exact ⟨_, hi, rfl, _, rfl, iteT h⟩
  | some g =>
    have e2 : (!behind (some g) t) = decide (t < g) := by
      show (!decide (g ≤ t)) = decide (t < g)
      by_cases w : t < g
      · rw [decide_eq_true w, decide_eq_false (by omega)]
        rfl
      · rw [decide_eq_false w, decide_eq_true (by omega)]
        rfl
    rw [e2] at h
    exact ⟨_, hi, rfl, _, rfl, iteF ⟨_, hj, _, hi, _, _, rfl, rfl, _, rfl, h⟩⟩
def bf (g : Int) (e : Int × Int) : Bool := decide (e.1 ≥ g) && !decide (V.int e.2 = V.int 0)
theorem bad_stmt {k : Kn} {l : Lt} (ok : k.ok) {H : Hp} {D : Ends} {B r0 : Addr} {bs : List Int} {ps : List Addr} {a0 a1 a2 a7 a8 a9 a10 a11 a12 a13 : Option V} (hB : H B = some (.lst (bs.map V.int))) (hbs : ∀ x, x ∈ bs ↔ B1 k l l.row.length x) (hbl : bs.length ≤ 32)
    (fz : FzT H r0 (ps.map V.ref)) (prs : Paired (fun p (e : Int × Int) => SqT K H p [.int e.1, .int e.2]) ps k.row)
    (q : ∀ (B' : Addr) (cs : List Int) (H' : Hp), H' B' = some (.lst (cs.map V.int)) → (∀ x, x ∈ cs ↔ BadP k l x) → Same H H' → D.nx [a0, a1, a2, some (ov l.ends), some (.ref r0), some (ov k.ends), some (.ref B'), a7, a8, a9, a10, a11, a12, a13] H') :
    (tIfS (tTest (tOp (fun x y H Q => y = V.non ∧ Q (V.bl !decide (x = V.non)) H) (tVar 3) (tC V.non)))
      (tSeq (tAsg (tOp rCat (tVar 6) (tLc (iTup K (tVar 4)) (gTup K 2 (gCons (gName 13) (gCons (gName 8) gNil))) (tAnd (tTest (tOp (rI0 fun i j => V.bl (decide (i ≥ j))) (tVar 13) (tVar 3))) (tTest (tOp rNe (tVar 8) (tC (V.int 0))))) (tVar 13) [13, 8])) (gName 6))
        (tIfS (tAnd (tTest (tOp (fun x y H Q => y = V.non ∧ Q (V.bl !decide (x = V.non)) H) (tVar 5) (tC V.non))) (tTest (tOp rNe (tVar 5) (tVar 3))))
          (tDrop (tBM K "list" rAppend (tVar 6) (tCons (tCB (fun xs H Q => ∃ i j, xs = [V.int i, V.int j] ∧ Q (V.int (if j < i then j else i)) H) (tCons (tVar 5) (tCons (tVar 3) tNil))) tNil))) tNext))
      tNext) D [a0, a1, a2, some (ov l.ends), some (.ref r0), some (ov k.ends), some (.ref B), a7, a8, a9, a10, a11, a12, a13] H := by
  have hkl := ok.len
  cases he : l.ends with
  | none =>
    rw [he] at q
    refine ⟨_, rfl, rfl, _, rfl, iteF (q B bs H hB (fun x => ?_) (Same.refl H))⟩
    rw [hbs, bad_iff]
    constructor
    · exact .inl
    · rintro (h | ⟨e, h, _⟩)
      · exact h
      · rw [he] at h
        cases h
  | some g =>
    rw [he] at q
    refine ⟨_, rfl, rfl, _, rfl, iteT ?_⟩
    refine ⟨_, rfl, _, rfl, r0, rfl, ⟨_, fz.sq⟩, fun D2 hD2 => ?_⟩
    refine lc_tup (xs := ps.map V.ref) (fun i H' => Same H H' ∧ H' D2 = some (.lst (((k.row.take i).filter (bf g)).map fun e => V.int e.1))) ⟨new_same hD2, upd_same⟩ (fun i H' _ h => (same_tf h.1).sq fz.sq) (fun i x H' hx h => ?_) (fun H1 h => ?_)
    · obtain ⟨sm, hacc⟩ := h
      rw [List.getElem?_map] at hx
      cases hp : ps[i]? with
      | none => rw [hp] at hx; cases hx
      | some p =>
        rw [hp] at hx
        cases hx
        obtain ⟨e, hee, hq⟩ := paired_at prs hp
        have hi := (List.getElem?_eq_some_iff.mp hee).1
        have step : (k.row.take (i + 1)).filter (bf g) = (k.row.take i).filter (bf g) ++ (if bf g e = true then [e] else []) := by
          rw [List.take_add_one, hee, List.filter_append]
          congr 1
          by_cases w : bf g e = true
          · rw [if_pos w]
            simp [w]
          · rw [if_neg w]
            simp [w]
        have hfl : ((k.row.take i).filter (bf g)).length ≤ 1000 := by
          have h1 := List.length_filter_le (bf g) (k.row.take i)
          rw [List.length_take] at h1
          omega
        have skip : bf g e = false → (Same H H' ∧ H' D2 = some (.lst (((k.row.take (i + 1)).filter (bf g)).map fun e => V.int e.1))) := fun w => by
          rw [step, if_neg (by rw [w]; exact Bool.false_ne_true), List.append_nil]
          exact ⟨sm, hacc⟩
        refine ⟨p, _, rfl, (same_tf sm).sq hq, rfl, _, _, rfl, _, _, rfl, rfl, ?_⟩
        refine ⟨rfl, ?_⟩
        refine ⟨_, rfl, _, rfl, _, _, rfl, rfl, _, rfl, ?_⟩
        refine ite2 (fun z => ?_) (fun z => ?_)
        · refine ⟨_, rfl, rfl, _, rfl, ?_⟩
          refine ite2 (fun z2 => ?_) (fun z2 => ?_)
          · have w : bf g e = true := by
              unfold bf
              rw [z, z2]
              rfl
            refine ⟨_, rfl, _, hacc, by rw [List.length_map]; exact Nat.lt_of_le_of_lt hfl (by decide), fun b o y => ?_, ?_⟩
            · rw [upd_ne (ne_of_none y hD2)]
              exact sm _ _ y
            · rw [upd_same, step, if_pos w, List.map_append]
              rfl
          · refine skip ?_
            unfold bf
            rw [Bool.eq_false_iff.mpr z2, Bool.and_false]
        · refine iteF (skip ?_)
          unfold bf
          rw [Bool.eq_false_iff.mpr z]
          rfl
    · obtain ⟨s1, hacc⟩ := h
      rw [show k.row.take (ps.map V.ref).length = k.row from List.take_of_length_le (by rw [List.length_map, Paired.length prs]; exact Nat.le_refl _)] at hacc
      have hfl := List.length_filter_le (bf g) k.row
      refine ⟨B, D2, _, _, rfl, rfl, s1 _ _ hB, hacc, by rw [List.length_map, List.length_map]; exact Nat.le_trans (show _ ≤ 1100 by omega) (by decide), fun p np => ?_⟩
      obtain ⟨F, hF⟩ : ∃ F : List Int, F = (k.row.filter (bf g)).map (·.1) := ⟨_, rfl⟩
      have eF : (k.row.filter (bf g)).map (fun e => V.int e.1) = F.map V.int := by
        rw [hF, List.map_map]
        rfl
      have hFm : ∀ x, x ∈ F ↔ ∃ p, (x, p) ∈ k.row ∧ g ≤ x ∧ p ≠ 0 := fun x => by
        rw [hF, List.mem_map]
        constructor
        · rintro ⟨e, h1, rfl⟩
          obtain ⟨h1, h2⟩ := List.mem_filter.mp h1
          unfold bf at h2
          obtain ⟨h3, h4⟩ := Bool.and_eq_true_iff.mp h2
          rw [dec_int] at h4
          exact ⟨e.2, h1, of_decide_eq_true h3, by simpa using h4⟩
        · rintro ⟨p, h1, h2, h3⟩
          refine ⟨(x, p), List.mem_filter.mpr ⟨h1, ?_⟩, rfl⟩
          unfold bf
          rw [dec_int, decide_eq_true (show x ≥ g from h2)]
          simpa using h3
      have hFl : F.length ≤ 1000 := by
        rw [hF, List.length_map]
        omega
      rw [eF, ← List.map_append]
      have s2 := new_same (o := .lst ((bs ++ F).map V.int)) np
      have hBp : (upd H1 p (.lst ((bs ++ F).map V.int))) p = some (.lst ((bs ++ F).map V.int)) := upd_same
      have hcs : ∀ x, x ∈ bs ++ F ↔ B1 k l l.row.length x ∨ ∃ p, (x, p) ∈ k.row ∧ g ≤ x ∧ p ≠ 0 := fun x => by
        rw [List.mem_append, hbs, hFm]
      cases hg : k.ends with
      | none =>
        rw [hg] at q
        refine ⟨_, rfl, rfl, _, rfl, iteF (iteF (q p (bs ++ F) _ hBp (fun x => ?_) (s1.trans s2)))⟩
        rw [hcs, bad_iff, he]
        constructor
        · rintro (h | h)
          · exact .inl h
          · exact .inr ⟨g, rfl, .inl h⟩
        · rintro (h | ⟨e, h, h2 | ⟨g', h2, _⟩⟩)
          · exact .inl h
          · cases h
            exact .inr h2
          · rw [hg] at h2
            cases h2
      | some g2 =>
        rw [hg] at q
        refine ⟨_, rfl, rfl, _, rfl, iteT ⟨_, rfl, _, rfl, rfl, _, rfl, ?_⟩⟩
        refine ite2 (fun z => ?_) (fun z => ?_)
        · replace z : (!decide (V.int g2 = V.int g)) = true := z
          have hne : g2 ≠ g := fun w => by
            rw [dec_int, w] at z
            simp at z
          refine ⟨_, rfl, .inl ⟨rfl, _, SqL.of hBp⟩, _, rfl, _, rfl, _, _, rfl, p, _, _, rfl, rfl, hBp, by rw [List.length_map, List.length_append]; exact Nat.lt_of_le_of_lt (show _ ≤ 1100 by omega) (by decide), ?_⟩
          refine q p ((bs ++ F) ++ [if g < g2 then g else g2]) _ (by rw [upd_same]; simp) (fun x => ?_) (fun b o y => ?_)
          · have hmin : (if g < g2 then g else g2) = min g2 g := by split <;> omega
            rw [List.mem_append, hcs, bad_iff, he, List.mem_singleton, hmin]
            constructor
            · rintro ((h | h) | h)
              · exact .inl h
              · exact .inr ⟨g, rfl, .inl h⟩
              · exact .inr ⟨g, rfl, .inr ⟨g2, hg, hne, h⟩⟩
            · rintro (h | ⟨e, h, h2 | ⟨g', h2, h3, h4⟩⟩)
              · exact .inl (.inl h)
              · cases h
                exact .inl (.inr h2)
              · cases h
                rw [hg] at h2
                cases h2
                exact .inr h4
          · rw [upd_ne (ne_of_none (s1 _ _ y) np)]
            exact s2 _ _ (s1 _ _ y)
        · have heq : g2 = g := by
            by_cases w : g2 = g
            · exact w
            · exfalso
              apply z
              show (!decide (V.int g2 = V.int g)) = true
              rw [dec_int]
              simpa using w
          refine q p (bs ++ F) _ hBp (fun x => ?_) (s1.trans s2)
          rw [hcs, bad_iff, he]
          constructor
          · rintro (h | h)
            · exact .inl h
            · exact .inr ⟨g, rfl, .inl h⟩
          · rintro (h | ⟨e, h, h2 | ⟨g', h2, h3, h4⟩⟩)
            · exact .inl h
            · cases h
              exact .inr h2
            · cases h
              rw [hg] at h2
              cases h2
              exact absurd heq h3
def spDue (K : PySem.W.Frag) : Sp := fun vs H Q _ => ∃ (v r : V) (k : Kn) (l : Lt), vs = [v, .int l.first, r, ov l.ends] ∧ KnH K H v k ∧ k.ok ∧ RwH K H r l.row ∧ l.ok ∧
  (∀ x H' u, (∀ y, ¬ BadP k l y) → Same H H' → SqT K H' x [.str "known", u] → KnH K H' u (lrn k l) → Q (.ref x) H') ∧
  ∀ x H' m, BadP k l m → (∀ y, BadP k l y → m ≤ y) → Same H H' → SqT K H' x [.str "clash", .int m] → Q (.ref x) H'
theorem scDu : FnScope ["known", "first", "row", "ends", "elder", "gone", "bad", "at", "press", "held", "table", "end", "ticks", "tick"] ["known", "first", "row", "ends"] (defScope s_law_due) := ⟨rfl, rfl, rfl, by decide +kernel, rfl, by decide +kernel, by decide +kernel⟩
theorem ok_law_due (T : Txt K w mg) : FnOk P w K mg base CX0 2 (He.fAd K ("_law_due", none)) (fdAt K (He.fAd K ("_law_due", none))) ["known", "first", "row", "ends"] (spDue K) := by
  refine T.F_law_due.ok scDu (fun vs H Q E h => ?_) (fun cdv A outer s H vs Q E hr h => ?_)
  · obtain ⟨v, r, k, l, rfl, _⟩ := h
    rfl
  · obtain ⟨v, r, k, l, rfl, hk, ok, ⟨rr, rfl, hrow⟩, lo, kq, ke⟩ := h
    have hu := Nat.lt_of_le_of_lt (Nat.add_le_add_left (by decide : 1 ≤ 64) _) hr.units
    refine ⟨_, PSs.nox (pss_cons (ps_asg (pv 0) (pg_tup (by rfl) (pgs_cons (pg_name (i := 4) scDu.nd rfl (Or.inl rfl)) (pgs_cons (pg_name (i := 5) scDu.nd rfl (Or.inl rfl)) pgs_nil))))
      (pss_cons (ps_set (i := 6) scDu.nd rfl (Or.inl rfl) (pe_lst pa_nil))
      (pss_cons (ps_for PassesOwn.never rfl (pi_enT (by rfl) T.n_enumerate (pa_cons (pv 2) pa_nil)) (pg_tup (by rfl) (pgs_cons (pg_name (i := 7) scDu.nd rfl (Or.inl rfl)) (pgs_cons (pg_name (i := 8) scDu.nd rfl (Or.inl rfl)) pgs_nil))) (pss_cons (ps_set (i := 9) scDu.nd rfl (Or.inl rfl) (pe_call (ok_law_press T) (hr.mono (by decide)) (by rfl) T.g_law_press (T.F_law_press).kp T.b_law_press .nil pass0 (pa_cons (pv 0) (pa_cons (pe_op op_add (pv 1) (pv 7)) pa_nil))))
      (pss_one (ps_if (PW.pt (pw_and (pt_cmpR op_notN (pv 9) pe_non (nomark _)) (pw_and1 (pt_cmpR op_ne (pv 9) (pv 8) (nomark _))))) (pss_one (ps_expr (pe_bm PySem.F.plainAttrs_list PySem.F.slot_list_append PySem.F.type_list_append mt_append (pv 6) (pa_cons (pe_op op_add (pv 1) (pv 7)) pa_nil)))) pss_nil))))
      (pss_cons (ps_if (pt_cmpR op_notN (pv 3) pe_non (nomark _)) (pss_cons (ps_set (i := 6) scDu.nd rfl (Or.inl rfl) (pe_op op_cat (pv 6) (pe_lc (own := [("tick", 13), ("press", 8)]) (g := gTup K 2 (gCons (gName 13) (gCons (gName 8) gNil))) (by rfl) scDu.nd (pi_tup (pv 4)) (blkOk_by (own := [("tick", 13), ("press", 8)]) (N := ["known", "first", "row", "ends", "elder", "gone", "bad", "at", "press", "held", "table", "end", "ticks", "tick"]) (sc := defScope s_law_due) (by decide +kernel)) (fun _ _ _ _ _ => (pg_tup (by rfl) (pgs_cons (pg_name (i := 13) scDu.nd rfl (Or.inl rfl)) (pgs_cons (pg_name (i := 8) scDu.nd rfl (Or.inl rfl)) pgs_nil)))) (fun _ _ _ _ _ => pts_one (PW.pt (pw_and (pt_cmpR op_ge (pv 13) (pv 3) (nomark _)) (pw_and1 (pt_cmpR op_ne (pv 8) pe_int (nomark _)))))) (fun _ _ _ _ _ => (pv 13)))))
      (pss_one (ps_if (PW.pt (pw_and (pt_cmpR op_notN (pv 5) pe_non (nomark _)) (pw_and1 (pt_cmpR op_ne (pv 5) (pv 3) (nomark _))))) (pss_one (ps_expr (pe_bm PySem.F.plainAttrs_list PySem.F.slot_list_append PySem.F.type_list_append mt_append (pv 6) (pa_cons (pe_callB (call_min2 rfl) (by rfl) T.n_min PyProof.Rows.Boot.«min» (pa_cons (pv 5) (pa_cons (pv 3) pa_nil))) pa_nil)))) pss_nil))) pss_nil)
      (pss_cons (ps_if (pt_cmpR (r := rNeNil K false) (op_neNil hr.units) (pv 6) (pe_lst pa_nil) (nomark _)) (pss_one (ps_ret (pe_tup (pa_cons pe_str (pa_cons (pe_callB (cr_min rfl) (by rfl) T.n_min PyProof.Rows.Boot.«min» (pa_cons (pv 6) pa_nil)) pa_nil))))) pss_nil)
      (pss_cons (ps_asg (pe_tup (pa_cons (pe_callTy (call_dictFz rfl) (by rfl) T.n_dict PyProof.Rows.Boot.«dict» (pa_cons (pv 4) pa_nil)) (pa_cons (pe_ifExp (pt_cmpR op_isN (pv 5) pe_non (nomark _)) (pv 3) (pv 5)) pa_nil))) (pg_tup (by rfl) (pgs_cons (pg_name (i := 10) scDu.nd rfl (Or.inr rfl)) (pgs_cons (pg_name (i := 11) scDu.nd rfl (Or.inr rfl)) pgs_nil))))
      (pss_cons (ps_for PassesOwn.never rfl (pi_enT (by rfl) T.n_enumerate (pa_cons (pv 2) pa_nil)) (pg_tup (by rfl) (pgs_cons (pg_name (i := 7) scDu.nd rfl (Or.inl rfl)) (pgs_cons (pg_name (i := 8) scDu.nd rfl (Or.inl rfl)) pgs_nil))) (pss_one (ps_dput hu (pv 10) (pe_op op_add (pv 1) (pv 7)) (pv 8) rfl)))
      (pss_cons (ps_setLc (i := 12) (own := [("tick", 13)]) (g := gName 13) (by rfl) scDu.nd rfl rfl (sw_true rfl rfl rfl (by decide +kernel)) (pi_list (pe_callB (call_sortedDA rfl) (by rfl) T.n_sorted PyProof.Rows.Boot.«sorted» (pa_cons (pv 10) pa_nil))) (blkOk_by (own := [("tick", 13)]) (N := ["known", "first", "row", "ends", "elder", "gone", "bad", "at", "press", "held", "table", "end", "ticks", "tick"]) (sc := defScope s_law_due) (by decide +kernel)) (fun _ _ _ _ _ => pg_name (i := 13) scDu.nd rfl (Or.inl rfl)) (fun _ _ _ _ _ => pts_one (PW.pt (pw_or (pt_cmpR op_isN (pv 11) pe_non (nomark _)) (pw_or1 (pt_cmpR op_lt (pv 13) (pv 11) (nomark _)))))) (fun _ _ _ _ _ => (pv 13)))
      (pss_one (ps_ret (pe_tup (pa_cons pe_str (pa_cons (pe_tup (pa_cons (pe_callTy call_tupleFz (by rfl) T.n_tuple PyProof.Rows.Boot.«tuple» (pa_cons (pe_lc (own := [("tick", 13)]) (g := gName 13) (tt := tYes) (by rfl) scDu.nd (pi_list (pv 12)) (blkOk_by (own := [("tick", 13)]) (N := ["known", "first", "row", "ends", "elder", "gone", "bad", "at", "press", "held", "table", "end", "ticks", "tick"]) (sc := defScope s_law_due) (by decide +kernel)) (fun _ _ _ _ _ => pg_name (i := 13) scDu.nd rfl (Or.inl rfl)) (fun _ _ _ _ _ => pts_nil) (fun _ _ _ _ _ => (pe_tup (pa_cons (pv 13) (pa_cons (pe_dget hu (pv 10) (pv 13) (fun _ _ => rfl)) pa_nil))))) pa_nil)) (pa_cons (pv 11) pa_nil))) pa_nil))))))))))))), ?_⟩
    obtain ⟨t, r0, ps, rfl, sq, fz, prs⟩ := hk
    refine ⟨_, rfl, t, _, rfl, sq, rfl, _, _, rfl, _, _, rfl, rfl, ?_⟩
    refine ⟨(show 0 ≤ sizeLine by decide), fun B nB => ?_⟩
    refine ⟨_, rfl, rr, _, rfl, (same_tf (new_same nB)).sq hrow, ?_⟩
    have sB := new_same (o := .lst []) nB
    have hl32 := lo.len
    have hk0 : KnH K H (.ref t) k := ⟨t, r0, ps, rfl, sq, fz, prs⟩
    refine for_it (walk_ity (K := K) (a := rr) (xs := l.row.map V.int) (c := 0)) (fun i σ H' => ∃ (v7 v8 v9 : Option V) (bs : List Int), σ = [some (.ref t), some (.int l.first), some (.ref rr), some (ov l.ends), some (.ref r0), some (ov k.ends), some (.ref B), v7, v8, v9, none, none, none, none] ∧
      H' B = some (.lst (bs.map V.int)) ∧ (∀ x, x ∈ bs ↔ B1 k l i x) ∧ bs.length ≤ i ∧ Same H H')
      ⟨_, _, _, [], rfl, upd_same, fun x => ⟨fun h => (nomatch h), fun h => absurd h (b1_zero x)⟩, Nat.le_refl _, sB⟩ (fun i σ H' _ h => by
        obtain ⟨_, _, _, _, _, _, _, _, sm⟩ := h
        exact (same_tf sm).sq hrow) (fun i x σ H' Hx hi h y => ?_) (fun σ H1 h => ?_)
    · obtain ⟨v7, v8, v9, bs, rfl, hB, hbs, hbl, sm⟩ := h
      obtain ⟨T1, x1, y1, rfl, nT, rfl, hx, hy⟩ := y
      rw [List.length_map] at hi
      replace hy : (l.row.map V.int)[i]? = some y1 := hy
      rw [List.getElem?_map, List.getElem?_eq_getElem hi] at hy
      cases hx
      cases hy
      have hp : l.row[i]? = some l.row[i] := List.getElem?_eq_getElem hi
      have sT := new_same (o := .tup [V.int (0 + (i : Nat)), V.int l.row[i]]) nT
      refine ⟨T1, _, rfl, SqT.of upd_same, rfl, _, _, rfl, _, _, rfl, rfl, ?_⟩
      refine ⟨_, rfl, _, rfl, _, rfl, _, _, rfl, rfl, .ref t, k, _, rfl, hk0.tf (sm.trans sT), ok, fun H2 s2 => ?_⟩
      have smm := (sm.trans sT).trans s2
      have hB2 := s2 _ _ (sT _ _ hB)
      have e0 : l.first + (0 + (i : Int)) = l.first + (i : Int) := by omega
      rw [e0]
      cases hh : held k (l.first + (i : Int)) with
      | none =>
        refine ⟨_, rfl, rfl, _, rfl, iteF (iteF ⟨_, _, _, bs, rfl, hB2, fun x => ?_, by omega, smm⟩)⟩
        rw [hbs, b1_step hp]
        constructor
        · exact .inl
        · rintro (h | ⟨h, q, h1, _⟩)
          · exact h
          · rw [h, hh] at h1
            cases h1
      | some hv =>
        refine ⟨_, rfl, rfl, _, rfl, iteT ⟨_, rfl, _, rfl, rfl, _, rfl, ?_⟩⟩
        refine ite2 (fun z => ?_) (fun z => ?_)
        · replace z : (!decide (V.int hv = V.int l.row[i])) = true := z
          have hne : hv ≠ l.row[i] := fun e => by
            rw [dec_int, e] at z
            simp at z
          refine ⟨_, rfl, .inl ⟨rfl, _, SqL.of hB2⟩, _, rfl, _, rfl, _, _, rfl, rfl, B, _, _, rfl, rfl, hB2, by rw [List.length_map]; exact Nat.lt_of_lt_of_le (show bs.length < 100 by omega) (by decide), ?_⟩
          refine ⟨_, _, _, bs ++ [l.first + (0 + (i : Int))], rfl, by rw [upd_same, List.map_append]; rfl, fun x => ?_, by rw [List.length_append]; simp; omega, fun b o w => ?_⟩
          · rw [List.mem_append, hbs x, b1_step hp, List.mem_singleton, e0]
            constructor
            · rintro (h | h)
              · exact .inl h
              · exact .inr ⟨h, hv, by rw [h]; exact hh, hne⟩
            · rintro (h | ⟨h, _⟩)
              · exact .inl h
              · exact .inr h
          · rw [upd_ne (ne_of_none w nB)]
            exact smm _ _ w
        · have heq : hv = l.row[i] := by
            by_cases e : hv = l.row[i]
            · exact e
            · exfalso
              apply z
              show (!decide (V.int hv = V.int l.row[i])) = true
              rw [dec_int]
              simpa using e
          refine ⟨_, _, _, bs, rfl, hB2, fun x => ?_, by omega, smm⟩
          rw [hbs, b1_step hp]
          constructor
          · exact .inl
          · rintro (h | ⟨h, q, h1, h2⟩)
            · exact h
            · rw [h, hh] at h1
              exact absurd ((Option.some.inj h1).symm.trans heq) h2
    obtain ⟨v7, v8, v9, bs, rfl, hB, hbs, hbl, s1⟩ := h
    rw [List.length_map] at hbs hbl
    obtain ⟨t', r', ps', e1, sq1, fz1, prs1⟩ := hk0.tf s1
    have fzA : FzT H1 r0 (ps.map V.ref) := by
      obtain ⟨ob, od, z⟩ := fz
      exact ⟨ob, od, s1 _ _ z⟩
    have prsA := L2.Paired.mapP prs fun _ _ z => (same_tf s1).sq z
    refine bad_stmt ok hB hbs (by omega) fzA prsA (fun B' cs H2 hB' hcs s2 => ?_)
    have s12 := s1.trans s2
    refine ⟨_, rfl, (show 0 ≤ sizeLine by decide), fun e ne => ?_⟩
    have se := new_same (o := .lst []) ne
    have s3 := s12.trans se
    have hB3 := se _ _ hB'
    refine ⟨cs.map PyData.int, .lst (SqL.of hB3) (dpa_ints cs), .lst (SqL.of upd_same) .nil, lay_ints cs, _, rfl, ?_⟩
    cases cs with
    | cons c0' cs' =>
      refine ite2 (fun _ => ?_) (fun z => absurd (by simp) z)
      refine ⟨_, rfl, B', c0' :: cs', rfl, SqL.of hB3, by simp, fun m hm hmin => ⟨(show 2 ≤ sizeLine by decide), fun x nx => ?_⟩⟩
      exact ke x _ m ((hcs m).mp hm) (fun y hy => hmin y ((hcs y).mpr hy)) (s3.trans (new_same nx)) (SqT.of upd_same)
    | nil =>
      have good : ∀ x, ¬ BadP k l x := fun x hx => by
        have := (hcs x).mpr hx
        cases this
      refine ite2 (fun z => absurd z (by decide)) (fun _ => ?_)
      have nda := nd_all l ok
      have hal : (all k l).length ≤ 1032 := by
        have := len_addAll k.row l.first l.row
        have := ok.len
        show (addAll k.row l.first l.row).length ≤ 1032
        omega
      have fz3 : FzT (upd H2 e (.lst [])) r0 (ps.map V.ref) := by
        obtain ⟨ob, od, z⟩ := fz
        exact ⟨ob, od, s3 _ _ z⟩
      have prs3 : Paired (fun p (kv : L2.Key × V) => SqT K (upd H2 e (.lst [])) p [kV kv.1, kv.2]) ps (dk k.row) := by
        have go : ∀ {l : List Addr} {m : Rw}, Paired (fun p (e : Int × Int) => SqT K H p [.int e.1, .int e.2]) l m → Paired (fun p (kv : L2.Key × V) => SqT K (upd H2 e (.lst [])) p [kV kv.1, kv.2]) l (dk m) := fun {l m} h => by
          induction h with
          | nil => exact .nil
          | cons a _ ih => exact .cons ((same_tf s3).sq a) ih
        exact go prs
      refine ⟨_, rfl, r0, ps, dk k.row, rfl, fz3, prs3, fun Tb nT => ?_⟩
      rw [show mergeK [] (dk k.row) = dk k.row from merge_dk k.row [] ok.nd]
      have sT := new_same (o := .dK (dk k.row)) nT
      refine due_end (k := k) (l := l) rfl rfl ⟨(show 2 ≤ sizeLine by decide), fun pp npp => ?_⟩
      have spp := new_same (o := .tup [.ref Tb, ov (ende k l)]) npp
      refine ⟨pp, _, rfl, SqT.of upd_same, rfl, _, _, rfl, _, _, rfl, rfl, ?_⟩
      have s5 := (s3.trans sT).trans spp
      refine ⟨_, rfl, rr, _, rfl, (same_tf s5).sq hrow, ?_⟩
      have nTH : ∀ b o, H b = some o → b ≠ Tb := fun b o z w => by
        rw [← w, s3 b o z] at nT
        cases nT
      refine for_it (walk_ity (K := K) (a := rr) (xs := l.row.map V.int) (c := 0)) (fun i σ H' => ∃ (v7 v8 v9 : Option V), σ = [some (.ref t), some (.int l.first), some (.ref rr), some (ov l.ends), some (.ref r0), some (ov k.ends), some (.ref B'), v7, v8, v9, some (.ref Tb), some (ov (ende k l)), none, none] ∧
        H' Tb = some (.dK (dk (putAll k.row l.first (l.row.take i)))) ∧ Same H H')
        ⟨_, _, _, rfl, spp _ _ upd_same, s5⟩ (fun i σ H' _ h => by
          obtain ⟨_, _, _, _, _, sm⟩ := h
          exact (same_tf sm).sq hrow) (fun i x σ H' Hx hi h y => ?_) (fun σ H6 h => ?_)
      · obtain ⟨v7, v8, v9, rfl, hT, sm⟩ := h
        obtain ⟨T1, x1, y1, rfl, nT1, rfl, hx, hy⟩ := y
        rw [List.length_map] at hi
        replace hy : (l.row.map V.int)[i]? = some y1 := hy
        rw [List.getElem?_map, List.getElem?_eq_getElem hi] at hy
        cases hx
        cases hy
        have hp : l.row[i]? = some l.row[i] := List.getElem?_eq_getElem hi
        have sT1 := new_same (o := .tup [V.int (0 + (i : Nat)), V.int l.row[i]]) nT1
        have hT1 := sT1 _ _ hT
        refine ⟨T1, _, rfl, SqT.of upd_same, rfl, _, _, rfl, _, _, rfl, rfl, ?_⟩
        have e0 : l.first + (0 + (i : Int)) = l.first + (i : Int) := by omega
        have hlen : (dk (putAll k.row l.first (l.row.take i))).length < sizeLine := by
          rw [dk_len]
          have := len_putAll k.row l.first (l.row.take i)
          have := ok.len
          rw [List.length_take] at *
          exact Nat.lt_of_le_of_lt (show _ ≤ 1032 by omega) (by decide)
        refine ⟨_, rfl, _, rfl, _, rfl, _, rfl, _, _, rfl, rfl, Tb, _, rfl, DPut.k (k := .inl (l.first + (0 + (i : Int)))) hT1 hlen, ?_⟩
        refine ⟨_, _, _, rfl, ?_, fun b o z => ?_⟩
        · rw [upd_same, dk_put, e0, List.take_add_one, hp]
          show _ = some (HO.dK (dk (putAll k.row l.first (l.row.take i ++ [l.row[i]]))))
          rw [putAll_snoc, List.length_take, Nat.min_eq_left (by omega)]
        · rw [upd_ne (nTH b o z)]
          exact sT1 _ _ (sm _ _ z)
      obtain ⟨v7, v8, v9, rfl, hT, s6⟩ := h
      rw [show l.row.take (l.row.map V.int).length = l.row from List.take_of_length_le (by rw [List.length_map]; exact Nat.le_refl _), good_put ok good] at hT
      refine ⟨_, rfl, Tb, dk (all k l), keys (all k l), rfl, .inl hT, dk_keys _, fun ys p2 perm sorted np2 => ⟨p2, rfl, ⟨_, SqL.of upd_same⟩, fun D hD => ?_⟩⟩
      have eys := srt_of perm sorted
      have hyl : ys.length ≤ 1032 := by
        rw [perm.length_eq, show (keys (all k l)).length = (all k l).length from List.length_map _]
        exact hal
      have s7 := new_same (o := .lst (ys.map V.int)) np2
      have sD := new_same (o := .lst []) hD
      refine lc_it (walk_list (K := K) (a := p2) (xs := ys.map V.int)) (fun i H' => H' D = some (.lst (((ys.take i).filter fun t => !behind (ende k l) t).map V.int)) ∧ Same (upd H6 p2 (.lst (ys.map V.int))) H')
        ⟨upd_same, sD⟩ (fun i H' _ h => h.2.seq (SqL.of upd_same)) (fun i x H' Hx hi h y => ?_) (fun H8 h => ?_)
      · obtain ⟨hacc, sm⟩ := h
        obtain ⟨rfl, hx⟩ := y
        rw [List.length_map] at hi
        rw [List.getElem?_map, List.getElem?_eq_getElem hi] at hx
        cases hx
        have hy0 : ys[i]? = some ys[i] := List.getElem?_eq_getElem hi
        have step : ((ys.take (i + 1)).filter fun t => !behind (ende k l) t) = ((ys.take i).filter fun t => !behind (ende k l) t) ++ (if behind (ende k l) ys[i] = true then [] else [ys[i]]) := by
          rw [List.take_add_one, hy0, List.filter_append]
          congr 1
          by_cases w : behind (ende k l) ys[i] = true
          · rw [if_pos w]
            simp [w]
          · rw [if_neg w]
            simp [w]
        have hfl : ((ys.take i).filter fun t => !behind (ende k l) t).length ≤ 1032 := by
          have h1 := List.length_filter_le (fun t => !behind (ende k l) t) (ys.take i)
          rw [List.length_take] at h1
          omega
        refine ⟨rfl, ?_⟩
        refine end_test (e := ende k l) (t := ys[i]) rfl rfl ?_
        cases hb : behind (ende k l) ys[i] with
        | true =>
          refine iteF ⟨?_, sm⟩
          rw [step, if_pos hb, List.append_nil]
          exact hacc
        | false =>
          refine iteT ⟨_, rfl, _, hacc, by rw [List.length_map]; exact Nat.lt_of_le_of_lt hfl (by decide), ?_, fun b o z => ?_⟩
          · rw [upd_same, step, if_neg (by rw [hb]; exact Bool.false_ne_true), List.map_append]
            rfl
          · rw [upd_ne (ne_of_none z hD)]
            exact sm _ _ z
      · obtain ⟨hacc, s8⟩ := h
        rw [show ys.take (ys.map V.int).length = ys from List.take_of_length_le (by rw [List.length_map]; exact Nat.le_refl _), eys] at hacc
        obtain ⟨ts, hts⟩ : ∃ ts, ts = (srt (keys (all k l))).filter fun t => !behind (ende k l) t := ⟨_, rfl⟩
        rw [← hts] at hacc
        have htm : ∀ x ∈ ts, x ∈ keys (all k l) := fun x hx => by
          rw [hts] at hx
          exact (srt_perm _).mem_iff.mp (List.mem_filter.mp hx).1
        have htl : ts.length ≤ 1032 := by
          rw [hts]
          have h1 := List.length_filter_le (fun t => !behind (ende k l) t) (srt (keys (all k l)))
          rw [(srt_perm _).length_eq, show (keys (all k l)).length = (all k l).length from List.length_map _] at h1
          omega
        have s68 : Same H6 H8 := s7.trans s8
        refine ⟨_, rfl, D, rfl, ⟨_, SqL.of hacc⟩, fun D2 hD2 => ?_⟩
        have sD2 := new_same (o := .lst []) hD2
        refine lc_it (walk_list (K := K) (a := D) (xs := ts.map V.int)) (fun i H' => ∃ qs : List Addr, H' D2 = some (.lst (qs.map V.ref)) ∧ Paired (fun p (e : Int × Int) => SqT K H' p [.int e.1, .int e.2]) qs ((ts.take i).map fun t => (t, (look (all k l) t).getD 0)) ∧ Same H8 H')
          ⟨[], upd_same, .nil, sD2⟩ (fun i H' _ h => by
            obtain ⟨_, _, _, sm⟩ := h
            exact SqL.of (sm _ _ hacc)) (fun i x H' Hx hi h y => ?_) (fun H9 h => ?_)
        · obtain ⟨qs, hacc4, hpr, sm⟩ := h
          obtain ⟨rfl, hx⟩ := y
          rw [List.length_map] at hi
          rw [List.getElem?_map, List.getElem?_eq_getElem hi] at hx
          cases hx
          have ht0 : ts[i]? = some ts[i] := List.getElem?_eq_getElem hi
          obtain ⟨v0, hv0⟩ := key_look (htm _ (List.getElem_mem hi))
          have hql : qs.length ≤ 1032 := by
            have h1 := Paired.length hpr
            rw [List.length_map, List.length_take] at h1
            omega
          refine ⟨rfl, ?_⟩
          dsimp only [tYes]
          rw [if_pos rfl]
          refine ⟨_, rfl, _, rfl, _, rfl, Tb, .int v0, rfl, .inl ⟨dk (all k l), .inl ts[i], .inl (sm _ _ (s68 _ _ hT)), rfl, by rw [dk_val, hv0]; rfl⟩, (show 2 ≤ sizeLine by decide), fun q nq => ?_⟩
          have sq' := new_same (o := .tup [V.int ts[i], V.int v0]) nq
          have hacc5 := sq' _ _ hacc4
          have tfD := TF.of_lst (o := .lst (qs.map V.ref ++ [V.ref q])) hacc5
          refine ⟨_, hacc5, by rw [List.length_map]; exact Nat.lt_of_le_of_lt hql (by decide), qs ++ [q], ?_, ?_, fun b o z => ?_⟩
          · rw [upd_same, List.map_append]
            rfl
          · rw [List.take_add_one, ht0, List.map_append]
            refine paired_app (L2.Paired.mapP hpr fun _ _ z => tfD.sq ((same_tf sq').sq z)) (.cons ?_ .nil)
            show SqT K _ q [.int ts[i], .int ((look (all k l) ts[i]).getD 0)]
            rw [hv0]
            exact tfD.sq (SqT.of upd_same)
          · rw [upd_ne (ne_of_none z hD2)]
            exact sq' _ _ (sm _ _ z)
        · obtain ⟨qs, hacc4, hpr, sm⟩ := h
          rw [show ts.take (ts.map V.int).length = ts from List.take_of_length_le (by rw [List.length_map]; exact Nat.le_refl _), hts] at hpr
          refine ⟨D2, _, rfl, SqL.of hacc4, fun R ob nR hob => ⟨_, rfl, (show 2 ≤ sizeLine by decide), fun q nq => ⟨(show 2 ≤ sizeLine by decide), fun x nx => ?_⟩⟩⟩
          have sR := new_same (o := .frz ob (.tup (qs.map V.ref))) nR
          have sq9 := new_same (o := .tup [V.ref R, ov (ende k l)]) nq
          have sx := new_same (o := .tup [V.str "known", V.ref q]) nx
          have sAll : Same H _ := ((((s6.trans s68).trans sm).trans sR).trans sq9).trans sx
          exact kq x _ (.ref q) good sAll (SqT.of upd_same) ⟨q, R, qs, rfl, (same_tf sx).sq (SqT.of upd_same), ⟨ob, hob, sx _ _ (sq9 _ _ upd_same)⟩, L2.Paired.mapP hpr fun _ _ z => (same_tf ((sR.trans sq9).trans sx)).sq z⟩
end
end K47
set_option maxRecDepth 100000
set_option maxHeartbeats 4000000
/-! One letter asked. -/
namespace KD
open PySem PySem.Spec PyProof.Rows L2
def tCallKS (sp : Sp) (gV : List V → List V → List V) (E : L2.St → XK) (t tk : TA) : TE := fun σ H Q => t σ H fun vs H1 => tk σ H1 fun zs H2 => sp (gV vs zs) H2 Q (E σ)
section
variable {X : Cx} {CX : CXT} {k : Nat} {f : Addr} {fd : FuncData} {ps ks : List Str} {sp : Sp} {E : L2.St → XK} {x : Str} {p pos : Pos} {kws : List Keyword} {tk : TA} {g : List Value → List Value → List Value} {gV : List V → List V → List V}
theorem pe_callKwS (F : FnOk X.prog X.w X.K X.mg X.base CX k f fd ps sp) (hr : Room k X.A) (hg : Gl X x) (hm : X.mg x = some (.ref f)) (hk : PySem.W.keepIn X.K (.ref f) = true) (hb : KBinds X.K fd ps ks g gV) (hx : ∀ σ, PassesAt CX X σ (E σ))
    (hkw : PK X kws tk) (hall : (backToKw pos (keywordEach kws X.env)).all (·.1.isSome) = true := by rfl) (hks : (backToKw pos (keywordEach kws X.env)).filterMap (·.1) = ks := by rfl)
    (hdb : (x == ("__debug__" : Str)) = false := by decide)
    (hpl : ((backTo pos (starEach [] X.env)).any (·.1) || (backToKw pos (keywordEach kws X.env)).any (·.1.isNone)) = false := by rfl) :
    PE X (.Call (.Name x p) [] kws pos) (tCallKS sp gV E tNil tk) := by
  refine ⟨fun pins s σ H Q I h => ?_⟩
  refine wpAny_Call_Name_kw (ld_glob I hg hm ?_ hdb)
  refine PySem.W.callWith_KW0 (h₀ := X.base) I.ok.mod.kin hk hall ?_ hpl
  refine thn (hkw.run pos pins s σ H _ I h) fun ws s2 ⟨zs, H2, I2, rz, q2⟩ => ⟨I2.kIn, ?_⟩
  rw [hks]
  have q3 : sp (gV [] zs) H2 Q (E σ) := q2
  have r2 := hb.rel .nil rz
  have hl : (g [] ws).length = ps.length := by rw [← r2.length]; exact F.len _ _ _ _ q3
  refine wpAny_call (codeAny_mono (F.run X.A X.stack s2 H2 ⟨[], ks.zip ws⟩ (g [] ws) (gV [] zs) Q (E σ) hr I2.env0 (hb.to s2 [] ws I2.kIn hl) r2 q3) fun r s' hq => ?_)
  cases r with
  | error e => exact hx σ pins H2 s2 e s' I2 hq
  | ok fl =>
    cases fl with
    | ret u => exact I2.after hq
    | next => exact False.elim hq
    | brk => exact False.elim hq
    | cont => exact False.elim hq
def kR {α : Type} (us ws : List α) : List α := if us.isEmpty then ws.reverse else []
theorem vals_app : ∀ {vs us : List V} {ws zs : List Value}, Vals vs ws → Vals us zs → Vals (vs ++ us) (ws ++ zs)
  | _, _, _, _, .nil, h => h
  | _, _, _, _, .cons a t, h => .cons a (vals_app t h)
theorem vals_rev : ∀ {vs : List V} {ws : List Value}, Vals vs ws → Vals vs.reverse ws.reverse
  | _, _, .nil => .nil
  | _, _, .cons a t => by
    rw [List.reverse_cons, List.reverse_cons]
    exact vals_app (vals_rev t) (.cons a .nil)
theorem kb_rev {K : PySem.W.Frag} {qual : Str} {params : Arguments} {body : List Stmt} {scope : Scope} {kws : List (Str × V)} (F : FunD K x qual params body scope [] kws f fd) (hp : ps.length ≠ 0)
    (h : ∀ (kV doc pm : Value) (an : Option Addr) (cdv ct : Value) (ws : List Value), ws.length = ps.length → bindArgs (PySem.W.fnOf x qual params body scope .none kV doc pm an cdv ct) ⟨[], ks.zip ws⟩ = pure (ps.zip ws.reverse)) : KBinds K fd ps ks kR kR := by
  obtain ⟨oc, od, dV, kV, doc, pm, an, cdv, ct, osl, rfl, lk, hcd, hD, hK⟩ := F.ex
  rcases hD with ⟨_, rfl⟩ | ⟨e, _⟩
  · refine ⟨fun s us ws _ hl => ?_, fun {vs us zs ws} r rz => ?_⟩
    · cases us with
      | nil =>
        have hl2 : ws.length = ps.length := by
          have : ws.reverse.length = ps.length := hl
          rw [List.length_reverse] at this
          exact this
        exact .of_eq (h kV doc pm an cdv ct ws hl2)
      | cons a b => exact absurd hl.symm hp
    · cases r with
      | nil => exact vals_rev rz
      | cons _ _ => exact .nil
  · exact absurd rfl e
end
end KD
namespace K47
open PySem PySem.Spec PyProof.Rows L2 KF KD
def oint : Option Int → PyData
  | none => .none
  | some n => .int n
def kpy (k : Kn) : PyData := .tuple [.tuple (k.row.map epy), oint k.ends]
theorem dp_kn {K : PySem.W.Frag} {H : Hp} {v : V} {k : Kn} (h : KnH K H v k) : Dp K H v (kpy k) := by
  obtain ⟨t, r, ps, rfl, sq, fz, prs⟩ := h
  refine .tup sq (.cons (.tup fz.sq (dpa_row prs)) (.cons ?_ .nil))
  cases k.ends with
  | none => exact .non
  | some g => exact .int g
theorem nl_row : ∀ r : Rw, NLs (r.map epy)
  | [] => trivial
  | _ :: r => ⟨⟨trivial, trivial, trivial⟩, nl_row r⟩
theorem al_kn (k : Kn) (h : k.row.length ≤ 1100) : AlOk 3 (kpy k) := by
  refine ⟨(show 2 ≤ 1100 by decide), ⟨nl_row _, by cases k.ends <;> exact ⟨trivial, trivial⟩⟩, fun e he => ?_⟩
  simp only [List.mem_cons, List.not_mem_nil, or_false] at he
  rcases he with rfl | rfl
  · refine ⟨by rw [List.length_map]; exact h, nl_row _, fun e he => ?_⟩
    obtain ⟨q, _, rfl⟩ := List.mem_map.mp he
    refine ⟨(show 2 ≤ 1100 by decide), ⟨trivial, trivial, trivial⟩, fun e he => ?_⟩
    simp only [List.mem_cons, List.not_mem_nil, or_false] at he
    rcases he with rfl | rfl <;> trivial
  · cases k.ends <;> trivial
section
variable {P : Program} {w : World} {K : PySem.W.Frag} {mg : Str → Option Value} {base : Heap}
def spRi (K : PySem.W.Frag) : Sp := fun vs H Q _ => ∃ (v u : V) (x : Addr) (b : Bool) (k : Kn) (l : Lt), vs = [v, u, .ref x, .bl b] ∧ KnH K H v k ∧ k.ok ∧ LtH K H u l ∧ l.ok ∧
  ((∃ z, SqT K H x [.str "known", z] ∧ KnH K H z (lrn k l) ∧ ∀ y, ¬ BadP k l y) ∨ (∃ m, SqT K H x [.str "clash", .int m] ∧ BadP k l m ∧ ∀ y, BadP k l y → m ≤ y)) ∧ ∀ H', Same H H' → Q (.bl true) H'
theorem scRi : FnScope ["known", "letter", "due", "by_name", "first", "row", "ends", "found", "caught", "e"] ["known", "letter", "due", "by_name"] (defScope s_law_right) := ⟨rfl, rfl, rfl, by decide +kernel, rfl, by decide +kernel, by decide +kernel⟩
theorem ok_law_right (T : Txt K w mg) : FnOk P w K mg base CX0 8 (He.fAd K ("_law_right", none)) (fdAt K (He.fAd K ("_law_right", none))) ["known", "letter", "due", "by_name"] (spRi K) := by
  have c0 := cf_of T.ex
  have kb : KBinds K (fdAt K (He.fAd K ("learned", none))) ["known", "first", "row", "ends"] ["ends", "row", "first", "known"] kR kR := kb_rev T.F_learned (by decide) fun _ _ _ _ _ _ ws hl => match ws, hl with | [_, _, _, _], _ => rfl
  refine T.F_law_right.ok scRi (fun vs H Q E h => ?_) (fun cdv A outer s H vs Q E hr h => ?_)
  · obtain ⟨v, u, x, b, k, l, rfl, _⟩ := h
    rfl
  · obtain ⟨v, u, x, b, k, l, rfl, hk, ok, hl, lo, hd, kk⟩ := h
    have hr7 : Room 7 _ := hr
    refine ⟨_, PSs.nox (pss_cons (ps_asg (pv 1) (pg_tup (by rfl) (pgs_cons (pg_name (i := 4) scRi.nd rfl (Or.inl rfl)) (pgs_cons (pg_name (i := 5) scRi.nd rfl (Or.inl rfl)) (pgs_cons (pg_name (i := 6) scRi.nd rfl (Or.inl rfl)) pgs_nil)))))
      (pss_cons (ps_asg (pe_tup (pa_cons pe_non (pa_cons pe_non pa_nil))) (pg_tup (by rfl) (pgs_cons (pg_name (i := 7) scRi.nd rfl (Or.inl rfl)) (pgs_cons (pg_name (i := 8) scRi.nd rfl (Or.inl rfl)) pgs_nil))))
      (pss_cons (ps_try_keep (i := 9) (tb := fun W => tAsg (tIf (tB (tVar 3)) (tCallKS (spLrn K) kR (WE W) tNil (tCons (tVar 6) (tCons (tVar 5) (tCons (tVar 4) (tCons (tVar 0) tNil))))) (tCallS (spLrn K) (WE W) (tCons (tVar 0) (tCons (tVar 4) (tCons (tVar 5) (tCons (tVar 6) tNil)))))) (gName 7)) (ts := fun _ _ _ => tAsg (tVar 9) (gName 8)) (Wo := fun _ _ _ _ => False) rfl rfl rfl scRi.nd rfl rfl ⟨rfl, by decide, Or.inl T.g_GameError⟩ takes0 (fun W pn xe tk _ => pss_one (ps_set (i := 7) scRi.nd rfl (Or.inl rfl) (pe_ifExp (pt_val (pv 3)) (pe_callKwS (ok_learned T) hr7 (by rfl) T.g_learned T.F_learned.kp kb (fun σ => passAt tk σ) (pk_cons (pv 6) (pk_cons (pv 5) (pk_cons (pv 4) (pk_cons (pv 0) pk_nil))))) (pe_callS (ok_learned T) hr7 (by rfl) T.g_learned T.F_learned.kp T.b_learned (fun σ => passAt tk σ) (pa_cons (pv 0) (pa_cons (pv 4) (pa_cons (pv 5) (pa_cons (pv 6) pa_nil)))))))) (fun ae ob cl dx pn hz hf => pss_one (ps_set (i := 8) scRi.nd rfl (Or.inl rfl) (pv 9))))
      (pss_cons (ps_if (pt_cmpR op_eq (pe_ix (r := rIxT K) ix_tup (pv 2) pe_int (fun _ _ => rfl)) pe_str (nomark _)) (pss_one (ps_ret (pe_and (pe_cmpR op_isN (pv 8) pe_non (nomark _)) (pe_one (pe_call (ok_law_same T 4) (hr.mono (by omega)) (by rfl) T.g_law_same (T.F_law_same).kp T.b_law_same .nil pass0 (pa_cons (pv 7) (pa_cons (pe_ix (r := rIxT K) ix_tup (pv 2) pe_int (fun _ _ => rfl)) pa_nil))))))) pss_nil)
      (pss_cons (ps_if (pt_val (pe_callB call_isCT (by rfl) T.n_isinstance PyProof.Rows.Boot.«isinstance» (pa_cons (pv 8) (pa_cons (pe_tup (pa_cons (pe_glob (v := .ref (He.ga K "InvalidKnown")) (by rfl) T.g_InvalidKnown rfl) (pa_cons (pe_glob (v := .ref (He.ga K "InvalidLetter")) (by rfl) T.g_InvalidLetter rfl) (pa_cons (pe_glob (v := .ref (He.ga K "InvalidPress")) (by rfl) T.g_InvalidPress rfl) (pa_cons (pe_glob (v := .ref (He.ga K "InvalidTick")) (by rfl) T.g_InvalidTick rfl) pa_nil))))) pa_nil)))) (pss_one (ps_ret pe_bl)) pss_nil)
      (pss_one (ps_ret (pe_and (pe_callB call_isC (by rfl) T.n_isinstance PyProof.Rows.Boot.«isinstance» (pa_cons (pv 8) (pa_cons (pe_glob (v := .ref (He.ga K "Clash")) (by rfl) T.g_Clash rfl) pa_nil))) (pe_and (pe_callB call_isC (by rfl) T.n_isinstance PyProof.Rows.Boot.«isinstance» (pa_cons (pv 8) (pa_cons (pe_bltn (v := .ty "ValueError") (by rfl) T.n_ValueError PyProof.Rows.Boot.«ValueError» rfl) pa_nil))) (pe_one (pe_call (ok_law_same T 4) (hr.mono (by omega)) (by rfl) T.g_law_same (T.F_law_same).kp T.b_law_same .nil pass0 (pa_cons (pe_xk (pv 8)) (pa_cons (pe_ix (r := rIxT K) ix_tup (pv 2) pe_int (fun _ _ => rfl)) pa_nil))))))))))))), ?_⟩
    obtain ⟨lt, r, rfl, sq, rsq⟩ := hl
    refine ⟨_, rfl, lt, _, rfl, sq, rfl, _, _, rfl, _, _, rfl, _, _, rfl, rfl, ?_⟩
    refine ⟨(show 2 ≤ sizeLine by decide), fun p np => ⟨p, _, rfl, SqT.of upd_same, rfl, _, _, rfl, _, _, rfl, rfl, ?_⟩⟩
    have sp := new_same (o := .tup [.non, .non]) np
    have hk1 := hk.tf sp
    have rsq1 := (same_tf sp).sq rsq
    refine ⟨_, rfl, b, rfl, ?_⟩
    have dq : SqT K H lt _ := sq
    cases b
    · refine iteF ⟨_, rfl, _, rfl, _, rfl, _, rfl, v, .ref r, k, l, rfl, hk1, ok, ⟨r, rfl, rsq1⟩, lo, fun H1 xv s1 noC kn => ?_, fun H1 dx m s1 cl hmin hdx => ?_⟩
      · -- it returns
        have dq1 := (same_tf (sp.trans s1)).sq dq
        rcases hd with ⟨z, hsq, hz, good⟩ | ⟨m, hsq, hm, hmin⟩
        · have hsq1 := (same_tf (sp.trans s1)).sq hsq
          refine ⟨_, rfl, x, _, _, _, rfl, rfl, hsq1, atI_nat (j := 0) rfl, rfl, _, rfl, ite2 (fun _ => ?_) (fun z => absurd (by decide) z)⟩
          refine ⟨_, rfl, rfl, _, rfl, iteT ⟨_, rfl, _, rfl, x, _, _, _, rfl, rfl, hsq1, atI_nat (j := 1) rfl, xv, z, kpy (lrn k l), rfl, dp_kn kn, dp_kn (hz.tf (sp.trans s1)), al_kn _ ?_, fun H2 s2 => kk H2 ((sp.trans s1).trans s2)⟩⟩
          exact Nat.le_trans (lrn_ok ok lo).len (by decide)
        · obtain ⟨y, hy, _⟩ := bad_cl ok lo hm
          exact absurd hy (noC y)
      · -- it raises
        refine ⟨true, c0.game, fun _ ae hae => ⟨_, rfl, ?_⟩, fun q => Bool.noConfusion q⟩
        have ndx : dx ≠ ae := fun z => by rw [z, upd_same] at hae; cases hae
        have sx := new_same (o := .xd [(("value" : Str), .int m)]) hdx
        have sae := new_same (o := CxO (.ref (He.ga K "Clash")) (some dx) ae) hae
        have s9 := ((sp.trans s1).trans sx).trans sae
        have hAe : (upd (upd H1 dx (.xd [(("value" : Str), .int m)])) ae (CxO (.ref (He.ga K "Clash")) (some dx) ae)) ae = some (CxO (.ref (He.ga K "Clash")) (some dx) ae) := upd_same
        have hDx := sae _ _ (show (upd H1 dx (.xd [(("value" : Str), .int m)])) dx = some (.xd [(("value" : Str), .int m)]) from upd_same)
        rcases hd with ⟨z, hsq, hz, good⟩ | ⟨m', hsq, hm, hmin'⟩
        · obtain ⟨y, hy, _⟩ := cl_bad ok lo cl
          exact absurd hy (good y)
        · have em : m' = m := mins_eq ok lo hm hmin' cl hmin
          subst em
          have hsq9 := (same_tf s9).sq hsq
          refine ⟨_, rfl, x, _, _, _, rfl, rfl, hsq9, atI_nat (j := 0) rfl, rfl, _, rfl, ite2 (fun z => absurd z (by decide)) (fun _ => ?_)⟩
          refine ⟨_, rfl, (show 4 ≤ sizeLine by decide), fun tp ntp => ?_⟩
          have stp := new_same (o := .tup [.ref (He.ga K "InvalidKnown"), .ref (He.ga K "InvalidLetter"), .ref (He.ga K "InvalidPress"), .ref (He.ga K "InvalidTick")]) ntp
          have hAe1 := stp _ _ hAe
          have hDx1 := stp _ _ hDx
          refine ⟨He.ga K "Clash", ae, dx, tp, _, _, false, _, rfl, c0.exc, hAe1, hDx1, upd_same, .cons (.own _) (.cons (.own _) (.cons (.own _) (.cons (.own _) .nil))), ?_, _, rfl, iteF ?_⟩
          · have ca : ∀ {y : Str} {us : List Value}, y ∈ nots → PySem.W.kitAny K (.ref (He.ga K "Clash")) us = some false → PySem.W.kitAny K (.ref (He.ga K "Clash")) (.ref (He.ga K y) :: us) = some false := fun hy h => kitAny_cons (b := false) (clash_not T.ex hy) (fun _ => h) (fun z => nomatch z)
            exact ca (y := "InvalidKnown") (by decide +kernel) (ca (y := "InvalidLetter") (by decide +kernel) (ca (y := "InvalidPress") (by decide +kernel) (ca (y := "InvalidTick") (by decide +kernel) kitAny_nil)))
          refine ⟨_, rfl, He.ga K "Clash", ae, dx, _, _, true, _, rfl, c0.exc, hAe1, hDx1, .own _, clash_is T.ex, _, rfl, iteT ?_⟩
          refine ⟨_, rfl, He.ga K "Clash", ae, dx, _, _, true, _, rfl, c0.exc, hAe1, hDx1, .ty _, c0.ve, _, rfl, iteT ?_⟩
          refine ⟨_, rfl, ae, He.ga K "Clash", dx, _, _, rfl, hAe1, c0.xf, c0.noV, hDx1, rfl, _, rfl, x, _, _, _, rfl, rfl, (same_tf stp).sq hsq9, atI_nat (j := 1) rfl, .int m', .int m', .int m', rfl, .int _, .int _, trivial, fun H2 s2 => kk H2 ((s9.trans stp).trans s2)⟩
    · refine iteT ⟨_, rfl, _, rfl, _, rfl, _, rfl, v, .ref r, k, l, rfl, hk1, ok, ⟨r, rfl, rsq1⟩, lo, fun H1 xv s1 noC kn => ?_, fun H1 dx m s1 cl hmin hdx => ?_⟩
      · -- it returns
        have dq1 := (same_tf (sp.trans s1)).sq dq
        rcases hd with ⟨z, hsq, hz, good⟩ | ⟨m, hsq, hm, hmin⟩
        · have hsq1 := (same_tf (sp.trans s1)).sq hsq
          refine ⟨_, rfl, x, _, _, _, rfl, rfl, hsq1, atI_nat (j := 0) rfl, rfl, _, rfl, ite2 (fun _ => ?_) (fun z => absurd (by decide) z)⟩
          refine ⟨_, rfl, rfl, _, rfl, iteT ⟨_, rfl, _, rfl, x, _, _, _, rfl, rfl, hsq1, atI_nat (j := 1) rfl, xv, z, kpy (lrn k l), rfl, dp_kn kn, dp_kn (hz.tf (sp.trans s1)), al_kn _ ?_, fun H2 s2 => kk H2 ((sp.trans s1).trans s2)⟩⟩
          exact Nat.le_trans (lrn_ok ok lo).len (by decide)
        · obtain ⟨y, hy, _⟩ := bad_cl ok lo hm
          exact absurd hy (noC y)
      · -- it raises
        refine ⟨true, c0.game, fun _ ae hae => ⟨_, rfl, ?_⟩, fun q => Bool.noConfusion q⟩
        have ndx : dx ≠ ae := fun z => by rw [z, upd_same] at hae; cases hae
        have sx := new_same (o := .xd [(("value" : Str), .int m)]) hdx
        have sae := new_same (o := CxO (.ref (He.ga K "Clash")) (some dx) ae) hae
        have s9 := ((sp.trans s1).trans sx).trans sae
        have hAe : (upd (upd H1 dx (.xd [(("value" : Str), .int m)])) ae (CxO (.ref (He.ga K "Clash")) (some dx) ae)) ae = some (CxO (.ref (He.ga K "Clash")) (some dx) ae) := upd_same
        have hDx := sae _ _ (show (upd H1 dx (.xd [(("value" : Str), .int m)])) dx = some (.xd [(("value" : Str), .int m)]) from upd_same)
        rcases hd with ⟨z, hsq, hz, good⟩ | ⟨m', hsq, hm, hmin'⟩
        · obtain ⟨y, hy, _⟩ := cl_bad ok lo cl
          exact absurd hy (good y)
        · have em : m' = m := mins_eq ok lo hm hmin' cl hmin
          subst em
          have hsq9 := (same_tf s9).sq hsq
          refine ⟨_, rfl, x, _, _, _, rfl, rfl, hsq9, atI_nat (j := 0) rfl, rfl, _, rfl, ite2 (fun z => absurd z (by decide)) (fun _ => ?_)⟩
          refine ⟨_, rfl, (show 4 ≤ sizeLine by decide), fun tp ntp => ?_⟩
          have stp := new_same (o := .tup [.ref (He.ga K "InvalidKnown"), .ref (He.ga K "InvalidLetter"), .ref (He.ga K "InvalidPress"), .ref (He.ga K "InvalidTick")]) ntp
          have hAe1 := stp _ _ hAe
          have hDx1 := stp _ _ hDx
          refine ⟨He.ga K "Clash", ae, dx, tp, _, _, false, _, rfl, c0.exc, hAe1, hDx1, upd_same, .cons (.own _) (.cons (.own _) (.cons (.own _) (.cons (.own _) .nil))), ?_, _, rfl, iteF ?_⟩
          · have ca : ∀ {y : Str} {us : List Value}, y ∈ nots → PySem.W.kitAny K (.ref (He.ga K "Clash")) us = some false → PySem.W.kitAny K (.ref (He.ga K "Clash")) (.ref (He.ga K y) :: us) = some false := fun hy h => kitAny_cons (b := false) (clash_not T.ex hy) (fun _ => h) (fun z => nomatch z)
            exact ca (y := "InvalidKnown") (by decide +kernel) (ca (y := "InvalidLetter") (by decide +kernel) (ca (y := "InvalidPress") (by decide +kernel) (ca (y := "InvalidTick") (by decide +kernel) kitAny_nil)))
          refine ⟨_, rfl, He.ga K "Clash", ae, dx, _, _, true, _, rfl, c0.exc, hAe1, hDx1, .own _, clash_is T.ex, _, rfl, iteT ?_⟩
          refine ⟨_, rfl, He.ga K "Clash", ae, dx, _, _, true, _, rfl, c0.exc, hAe1, hDx1, .ty _, c0.ve, _, rfl, iteT ?_⟩
          refine ⟨_, rfl, ae, He.ga K "Clash", dx, _, _, rfl, hAe1, c0.xf, c0.noV, hDx1, rfl, _, rfl, x, _, _, _, rfl, rfl, (same_tf stp).sq hsq9, atI_nat (j := 1) rfl, .int m', .int m', .int m', rfl, .int _, .int _, trivial, fun H2 s2 => kk H2 ((s9.trans stp).trans s2)⟩
end
end K47
set_option maxRecDepth 100000
set_option maxHeartbeats 4000000
/-! The law. -/
namespace K47
open PySem PySem.Spec PyProof.Rows L2 KF KD
section
variable {P : Program} {w : World} {K : PySem.W.Frag} {mg : Str → Option Value} {base : Heap}
theorem LtH.tf {H H' : Hp} {u : V} {l : Lt} (e : TF H H') (h : LtH K H u l) : LtH K H' u l := by
  obtain ⟨t, r, h1, h2, h3⟩ := h
  exact ⟨t, r, h1, e.sq h2, e.sq h3⟩
/-- a letter that was learned -/
def TkOk (K : PySem.W.Frag) (H : Hp) (k : Kn) (u : V) : Prop := ∃ l, LtH K H u l ∧ l.ok ∧ Cons k l
def spLaw (K : PySem.W.Frag) : Sp := fun vs H Q _ => ∃ (a : Addr) (ns : List Int), vs = [.ref a] ∧ SqL K H a (ns.map V.int) ∧ ns.length ≤ 63 ∧ ∀ H', Q (.bl true) H'
theorem scLw : FnScope ["script", "at", "deck", "known", "taken", "turn", "letter", "due"] ["script"] (defScope s_law) := ⟨rfl, rfl, rfl, by decide +kernel, rfl, by decide +kernel, by decide +kernel⟩
theorem ok_law (T : Txt K w mg) : FnOk P w K mg base CX0 9 (He.fAd K ("law", none)) (fdAt K (He.fAd K ("law", none))) ["script"] (spLaw K) := by
  refine T.F_law.ok scLw (fun vs H Q E h => ?_) (fun cdv A outer s H vs Q E hr h => ?_)
  · obtain ⟨a, ns, rfl, _⟩ := h
    rfl
  · obtain ⟨a, ns, rfl, hS, hln, kk⟩ := h
    refine ⟨_, PSs.nox (pss_cons (ps_for PassesOwn.never rfl (pi_range1 (by rfl) T.n_range (pa_cons (pe_callB (call_max2 rfl) (by rfl) T.n_max PyProof.Rows.Boot.«max» (pa_cons pe_int (pa_cons (pe_callB (call_min2 rfl) (by rfl) T.n_min PyProof.Rows.Boot.«min» (pa_cons pe_int (pa_cons (pe_callB (r := Evl.rLenS K) call_len_seq (by rfl) T.n_len PyProof.Rows.Boot.«len» (pa_cons (pv 0) pa_nil)) pa_nil))) pa_nil))) pa_nil)) (pg_name (i := 1) scLw.nd rfl (Or.inl rfl)) (pss_cons (ps_set (i := 2) scLw.nd rfl (Or.inl rfl) (pe_call (ok_law_deck T) (hr.mono (by decide)) (by rfl) T.g_law_deck (T.F_law_deck).kp T.b_law_deck .nil pass0 (pa_cons (pv 0) (pa_cons (pv 1) pa_nil))))
      (pss_cons (ps_par (i := 3) (j := 4) (by rfl) scLw.nd rfl rfl (by decide) rfl rfl (pa_cons (pe_call (ok_law_known T) (hr.mono (by decide)) (by rfl) T.g_law_known (T.F_law_known).kp T.b_law_known .nil pass0 (pa_cons (pv 2) pa_nil)) (pa_cons (pe_lst pa_nil) pa_nil)) (by rfl))
      (pss_cons (ps_for PassesOwn.never rfl (pi_range1 (by rfl) T.n_range (pa_cons (pe_op op_add pe_int (pe_call (ok_law_draw T) (hr.mono (by decide)) (by rfl) T.g_law_draw (T.F_law_draw).kp T.b_law_draw .nil pass0 (pa_cons (pv 2) (pa_cons pe_int pa_nil)))) pa_nil)) (pg_name (i := 5) scLw.nd rfl (Or.inl rfl)) (pss_cons (ps_set (i := 6) scLw.nd rfl (Or.inl rfl) (pe_call (ok_law_letter T) (hr.mono (by decide)) (by rfl) T.g_law_letter (T.F_law_letter).kp T.b_law_letter .nil pass0 (pa_cons (pv 2) (pa_cons (pv 3) pa_nil))))
      (pss_cons (ps_set (i := 7) scLw.nd rfl (Or.inl rfl) (pe_call (ok_law_due T) (hr.mono (by decide)) (by rfl) T.g_law_due (T.F_law_due).kp T.b_law_due .nil pass0 (pa_cons (pv 3) (pa_cons (pe_ix (r := rIxT K) ix_tup (pv 6) pe_int (fun _ _ => rfl)) (pa_cons (pe_ix (r := rIxT K) ix_tup (pv 6) pe_int (fun _ _ => rfl)) (pa_cons (pe_ix (r := rIxT K) ix_tup (pv 6) pe_int (fun _ _ => rfl)) pa_nil))))))
      (pss_cons (ps_if (pt_not (pt_val (pe_call (ok_law_right T) (hr.mono (by decide)) (by rfl) T.g_law_right (T.F_law_right).kp T.b_law_right .nil pass0 (pa_cons (pv 3) (pa_cons (pv 6) (pa_cons (pv 7) (pa_cons (pe_cmpR op_eq (pv 5) pe_int (nomark _)) pa_nil))))))) (pss_one (ps_ret pe_bl)) pss_nil)
      (pss_one (ps_if (pt_cmpR op_eq (pe_ix (r := rIxT K) ix_tup (pv 7) pe_int (fun _ _ => rfl)) pe_str (nomark _)) (pss_cons (ps_set (i := 3) scLw.nd rfl (Or.inl rfl) (pe_ix (r := rIxT K) ix_tup (pv 7) pe_int (fun _ _ => rfl)))
      (pss_one (ps_expr (pe_bm PySem.F.plainAttrs_list PySem.F.slot_list_append PySem.F.type_list_append mt_append (pv 4) (pa_cons (pv 6) pa_nil))))) pss_nil))))))
      (pss_one (ps_for PassesOwn.never rfl (pi_list (pe_revL (pv 4))) (pg_name (i := 6) scLw.nd rfl (Or.inl rfl)) (pss_one (ps_if (pt_not (pt_val (pe_call (ok_law_right T) (hr.mono (by decide)) (by rfl) T.g_law_right (T.F_law_right).kp T.b_law_right .nil pass0 (pa_cons (pv 3) (pa_cons (pv 6) (pa_cons (pe_tup (pa_cons pe_str (pa_cons (pv 3) pa_nil))) (pa_cons pe_bl pa_nil))))))) (pss_one (ps_ret pe_bl)) pss_nil))))))))
      (pss_one (ps_ret pe_bl))), ?_⟩
    obtain ⟨M, hM, hM6⟩ : ∃ M : Int, M = (if (if (((ns.map V.int).length : Nat) : Int) < 6 then (((ns.map V.int).length : Nat) : Int) else 6) > 1 then (if (((ns.map V.int).length : Nat) : Int) < 6 then (((ns.map V.int).length : Nat) : Int) else 6) else 1) ∧ 0 ≤ M ∧ M ≤ 6 := by
      refine ⟨_, rfl, ?_⟩
      constructor
      · split
        · omega
        · omega
      · split
        · split <;> omega
        · omega
    refine ⟨_, rfl, a, _, rfl, .inl hS, _, _, rfl, _, _, rfl, M, by rw [hM], by omega, by omega, ?_⟩
    refine for_range (lo := 0) (n := M.toNat) (fun i σ H' => ∃ (v1 v2 v3 v4 v5 v6 v7 : Option V), σ = [some (.ref a), v1, v2, v3, v4, v5, v6, v7] ∧ Same H H') ⟨_, _, _, _, _, _, _, rfl, Same.refl _⟩ (fun i σ H0 hi hPv => ?_) (fun σ H0 hPv => kk H0)
    obtain ⟨v1, v2, v3, v4, v5, v6, v7, rfl, sH⟩ := hPv
    have hi6 : i < 6 := by omega
    refine ⟨_, rfl, _, rfl, a, ns, i, by rw [Int.zero_add]; rfl, sH.seq hS, by omega, fun d H1 s1 n1 D1 => ?_⟩
    refine ⟨_, rfl, d, 899999999900, rfl, D1.le (by decide), fun vk0 k0 H2 hk0 ok0 f2 D2 => ⟨(show 0 ≤ sizeLine by decide), fun A nA => ⟨_, _, rfl, ?_⟩⟩⟩
    have sA := new_same (o := .lst []) nA
    have hAd : A ≠ d := fun z => by
      obtain ⟨xs, hx⟩ := D2.lst
      rw [z, hx] at nA
      cases nA
    have s02 : Same H0 H2 := frm_same s1 n1 f2
    have nA0 : ∀ b o, H0 b = some o → b ≠ A := fun b o z w => by
      rw [← w, s02 b o z] at nA
      cases nA
    refine ⟨_, rfl, d, 5, 899999999899, rfl, by decide, by decide, D2.same sA, fun y H3 y0 y1 f3 D3 => ⟨_, _, rfl, rfl, 2 + y, rfl, by omega, by omega, ?_⟩⟩
    have nd0 : H0 d = none := n1
    have s03 : Same H0 H3 := fun b o z => f3 b o (ne_of_none z nd0) (sA _ _ (s02 b o z))
    obtain ⟨xs2, hx2⟩ := (D2.same sA).lst
    refine for_range (lo := 0) (n := (2 + y).toNat) (fun j σ H' => ∃ (v5 v6 v7 : Option V) (vk : V) (kn : Kn) (ws : List V), σ = [some (.ref a), some (.int (0 + (i : Int))), some (.ref d), some vk, some (.ref A), v5, v6, v7] ∧ KnH K H' vk kn ∧ kn.ok ∧ H' A = some (.lst ws) ∧ ws.length ≤ j ∧ (∀ u ∈ ws, TkOk K H' kn u) ∧ Dk H' d (899999999899 - 100 * j) ∧ Same H0 H')
      ⟨_, _, _, vk0, k0, [], rfl, (hk0.tf sA).frm f3 hx2, ok0, f3 A _ hAd upd_same, Nat.le_refl _, fun u hu => (nomatch hu), D3, s03⟩ (fun j σ H4 hj h => ?_) (fun σ H4 h => ?_)
    · obtain ⟨w5, w6, w7, vk, kn, ws, rfl, hk, ok, hA, hwl, htk, DD, s04⟩ := h
      have hj6 : j < 6 := by omega
      refine ⟨_, rfl, _, rfl, d, vk, kn, 899999999799 - 100 * j, rfl, hk, ok, DD.le (by omega), fun u lt H5 hl lo f5 D5 => ?_⟩
      obtain ⟨xs4, hx4⟩ := DD.lst
      have t5 := f5.tf hx4
      have hk5 := hk.frm f5 hx4
      obtain ⟨t, r, rfl, lsq, rsq⟩ := hl
      have hA5 := f5 A _ hAd hA
      have s05 : Same H0 H5 := fun b o z => f5 b o (ne_of_none z nd0) (s04 b o z)
      refine ⟨_, rfl, _, rfl, t, _, _, _, rfl, rfl, lsq, atI_nat (j := 0) rfl, _, rfl, t, _, _, _, rfl, rfl, lsq, atI_nat (j := 1) rfl, _, rfl, t, _, _, _, rfl, rfl, lsq, atI_nat (j := 2) rfl, vk, .ref r, kn, lt, rfl, hk5, ok, ⟨r, rfl, rsq⟩, lo, fun x H6 z good s6 xsq hz => ?_, fun x H6 m hm hmin s6 xsq => ?_⟩
      · have t6 := same_tf s6
        refine ⟨_, rfl, _, rfl, _, rfl, _, rfl, rfl, vk, .ref t, x, _, kn, lt, rfl, hk5.tf s6, ok, ⟨t, r, rfl, t6.sq lsq, t6.sq rsq⟩, lo, .inl ⟨z, xsq, hz, good⟩, fun H7 s7 => ⟨true, rfl, iteF ?_⟩⟩
        have t7 := same_tf s7
        have s67 := s6.trans s7
        refine ⟨_, rfl, x, _, _, _, rfl, rfl, t7.sq xsq, atI_nat (j := 0) rfl, rfl, _, rfl, ite2 (fun _ => ?_) (fun q => absurd (by decide) q)⟩
        refine ⟨_, rfl, x, _, _, _, rfl, rfl, t7.sq xsq, atI_nat (j := 1) rfl, ?_⟩
        have hA7 := s67 _ _ hA5
        refine ⟨_, rfl, .inl ⟨rfl, _, SqL.of hA7⟩, _, rfl, A, _, _, rfl, rfl, hA7, Nat.lt_of_le_of_lt (show ws.length ≤ 10 by omega) (by decide), ?_⟩
        have tA := TF.of_lst (o := .lst (ws ++ [.ref t])) hA7
        refine ⟨_, _, _, z, lrn kn lt, ws ++ [.ref t], rfl, ?_, lrn_ok ok lo, upd_same, by rw [List.length_append]; simp; omega, fun u hu => ?_, ?_, fun b o q => ?_⟩
        · obtain ⟨kt, kr, ps, e1, e2, ⟨ob, od, e3⟩, e4⟩ := hz.tf s7
          exact ⟨kt, kr, ps, e1, tA.sq e2, ⟨ob, od, by rw [upd_ne (fun q => by rw [q, hA7] at e3; cases e3)]; exact e3⟩, L2.Paired.mapP e4 fun _ _ q => tA.sq q⟩
        · rcases List.mem_append.mp hu with hu | hu
          · obtain ⟨lu, hlu, lou, hc⟩ := htk u hu
            exact ⟨lu, hlu.tf ((t5.trans (same_tf s67)).trans tA), lou, cons_keep ok lo good hc⟩
          · rw [List.mem_singleton.mp hu]
            exact ⟨lt, ⟨t, r, rfl, tA.sq ((same_tf s67).sq lsq), tA.sq ((same_tf s67).sq rsq)⟩, lo, cons_new ok lo good⟩
        · obtain ⟨r6, m6, c6, e0, e1⟩ := (D5.same s67).le (show 899999999899 - 100 * (j + 1) ≤ 899999999799 - 100 * j by omega)
          exact ⟨r6, m6, c6, by rw [upd_ne hAd.symm]; exact e0, e1⟩
        · rw [upd_ne (nA0 b o q)]
          exact s67 _ _ (s05 b o q)
      · have t6 := same_tf s6
        refine ⟨_, rfl, _, rfl, _, rfl, _, rfl, rfl, vk, .ref t, x, _, kn, lt, rfl, hk5.tf s6, ok, ⟨t, r, rfl, t6.sq lsq, t6.sq rsq⟩, lo, .inr ⟨m, xsq, hm, hmin⟩, fun H7 s7 => ⟨true, rfl, iteF ?_⟩⟩
        have t7 := same_tf s7
        have s67 := s6.trans s7
        refine ⟨_, rfl, x, _, _, _, rfl, rfl, t7.sq xsq, atI_nat (j := 0) rfl, rfl, _, rfl, ite2 (fun q => absurd q (by decide)) (fun _ => ?_)⟩
        exact ⟨_, _, _, vk, kn, ws, rfl, hk5.tf s67, ok, s67 _ _ hA5, by omega, fun u hu => by
          obtain ⟨lu, hlu, lou, hc⟩ := htk u hu
          exact ⟨lu, hlu.tf (t5.trans (same_tf s67)), lou, hc⟩, (D5.same s67).le (by omega), fun b o q => s67 _ _ (s05 b o q)⟩
    · obtain ⟨w5, w6, w7, vk, kn, ws, rfl, hk, ok, hA, hwl, htk, DD, s04⟩ := h
      refine ⟨_, rfl, A, ws, rfl, SqL.of hA, fun p np => ⟨p, rfl, ⟨_, SqL.of upd_same⟩, ?_⟩⟩
      have sp := new_same (o := .lst ws.reverse) np
      refine for_it (walk_list (K := K) (a := p) (xs := ws.reverse)) (fun j σ H' => (∃ v6, σ = [some (.ref a), some (.int (0 + (i : Int))), some (.ref d), some vk, some (.ref A), w5, v6, w7]) ∧ Same (upd H4 p (.lst ws.reverse)) H') ⟨⟨_, rfl⟩, Same.refl _⟩ (fun j σ H' _ h => h.2.seq (SqL.of upd_same)) (fun j u σ H5 Hx hj h y => ?_) (fun σ H5 h => ?_)
      · obtain ⟨⟨v6, rfl⟩, sm⟩ := h
        obtain ⟨rfl, hx⟩ := y
        have hmem : u ∈ ws := List.mem_reverse.mp (List.mem_of_getElem? hx)
        obtain ⟨lu, hlu, lou, hc⟩ := htk u hmem
        have s45 := sp.trans sm
        refine ⟨_, rfl, _, rfl, _, rfl, (show 2 ≤ sizeLine by decide), fun q nq => ?_⟩
        have sq' := new_same (o := .tup [V.str "known", vk]) nq
        have hk6 := hk.tf (s45.trans sq')
        refine ⟨vk, u, q, false, kn, lu, rfl, hk6, ok, hlu.tf (same_tf (s45.trans sq')), lou, .inl ⟨vk, SqT.of upd_same, by rw [cons_same ok lou hc]; exact hk6, cons_good ok hc⟩, fun H7 s7 => ⟨true, rfl, iteF ⟨⟨_, rfl⟩, (sm.trans sq').trans s7⟩⟩⟩
      · obtain ⟨⟨v6, rfl⟩, sm⟩ := h
        exact ⟨_, _, _, _, _, _, _, rfl, sH.trans (fun b o q => sm _ _ (sp _ _ (s04 b o q)))⟩
end
end K47
set_option maxRecDepth 100000
set_option maxHeartbeats 0
open PySem PySem.W PySem.Calls PyProof.Rows
set_option maxHeartbeats 0 in
theorem PySem.Challenge.cw_latepresses_k47_whole_learned_by_tables_holds : PySem.Challenge.rw_latepresses_k47_whole_learned_by_tables.Holds := by
  w_on; o_law
  refine HandSHeadRun.head_any (r := K47.R) (q := view K47.R.prog [34]) (H := K47.hk) (ob := K47.ob) (M := 20000) (loose := K47.loose) (d := HandSHeadRun.topDef K47.R.prog 34) (kwd := []) K47.ob_eq
    (by kernel_rfl) (fun s => by kernel_rfl) K47.run (by kernel_rfl) (by kernel_rfl) (by kernel_rfl) (by rfl) (by first | assumption | decide +kernel) (by decide +kernel) ⟨rfl, rfl, rfl, rfl, rfl, by decide +kernel⟩ ?hw ?hc
  case hw => w_witness2
  case hc =>
    refine L2.walk_ofE (l := PySem.Challenge.rw_latepresses_k47_whole_learned_by_tables) (n := 63) (k := 9) (x := "script") (CX := L2.CX0) rfl (by decide) (by kernel_rfl) ⟨rfl, by decide, by decide⟩ ?F (fun _ _ _ _ z => z)
    intro w mg fa h Y G hmg0
    obtain ⟨K, KX, c⟩ := Y
    have hmg : mg ("law" : PySem.Str) = some (.ref fa) := by
      have e : (HandSHeadRun.topDef K47.R.prog 34).name = ("law" : PySem.Str) := by kernel_rfl
      rw [← e]
      exact hmg0
    have T := K47.txt_of KX G c
    have e := hmg.symm.trans T.g_law
    cases e
    exact ⟨K, K47.fdAt K (He.fAd K ("law", none)), K47.spLaw K, KX, fun s v => L2.FunD.bindsA (ps := ["script"]) T.F_law (fun _ _ _ _ _ _ us hl => match us, hl with | [_], _ => rfl) s [v] rfl, fun H a ns hl _ hS => ⟨a, ns, rfl, hS, hl, fun _ => rfl⟩, fun base _ _ => K47.ok_law T⟩
#print axioms PySem.Challenge.cw_latepresses_k47_whole_learned_by_tables_holds
