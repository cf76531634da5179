import PyProof.Rows.All
import Wide.All
import OpenK.AllK
import Wide.FinOn
import HandS.ForExc
import HandS.IsInst
import HandS.Wide
import KE.KExcIs
import HandS.ExcInit
import HandS.Defaults
import HandS.ExcIs
import HandS.ExcField
import KE.GoesEnumKw
import KE.KDictPairs
import HandS.ForMost
import HandS.Walk
import HandS.SortInts
import HandS.Dict
import HandS.More
import HandS.Comp
import HandS.DictComp
import HandS.FStrTup
import KE.KStateDown
import Wide.Once
import HandS.Evl
import HandS.Head0
import HandS.Head1
import HandS.Head2
import HandS.HeadEnd
import HandS.HeadHook1
import HandS.HeadHook2
import HandS.HeadHook3
import HandS.HeadHook4
import HandS.RaiseMore
import HandS.SetKeys
import HandS.Iter
import HandS.TupAny
import HandS.Text
import HandS.Zip
import PySem.Challenge.RW_latepresses_k51_whole_bags_by_a_list
set_option Elab.async false
set_option linter.all false
set_option maxRecDepth 100000
set_option maxHeartbeats 4000000
/-! Frames, draws, data without lists. -/
namespace KF
open PySem PySem.Spec PyProof.Rows L2
/-! ### data stand while tuples stand -/
def TF (H H' : Hp) : Prop := ∀ b xs, Rd H b (.tup xs) → Rd H' b (.tup xs)
theorem TF.sq {K : PySem.W.Frag} {H H' : Hp} (e : TF H H') {a : Addr} {xs : List V} (h : SqT K H a xs) : SqT K H' a xs := by
  rcases h with h | h
  · exact .inl (e _ _ h)
  · exact .inr h
theorem TF.refl (H : Hp) : TF H H := fun _ _ h => h
theorem TF.trans {H H1 H2 : Hp} (a : TF H H1) (b : TF H1 H2) : TF H H2 := fun c xs h => b c xs (a c xs h)
theorem TF.of_new {H : Hp} {p : Addr} {o : HO} (h : H p = none) : TF H (upd H p o) := fun c xs z => by
  rcases z with z | ⟨u, z⟩
  · exact .inl (by rw [upd_ne (ne_of_none z h)]; exact z)
  · exact .inr ⟨u, by rw [upd_ne (ne_of_none z h)]; exact z⟩
/-- but for one list all stands -/
def Frm (d : Addr) (H H' : Hp) : Prop := ∀ b o, b ≠ d → H b = some o → H' b = some o
theorem Frm.refl (d : Addr) (H : Hp) : Frm d H H := fun _ _ _ h => h
theorem Frm.trans {d : Addr} {H H1 H2 : Hp} (a : Frm d H H1) (b : Frm d H1 H2) : Frm d H H2 := fun c o n h => b c o n (a c o n h)
theorem Frm.of_same {d : Addr} {H H' : Hp} (e : Same H H') : Frm d H H' := fun b o _ h => e b o h
theorem Frm.of_new {d : Addr} {H : Hp} {p : Addr} {o : HO} (h : H p = none) : Frm d H (upd H p o) := fun b u _ z => by
  rw [upd_ne (ne_of_none z h)]
  exact z
theorem Frm.of_upd {d : Addr} {H : Hp} {o : HO} : Frm d H (upd H d o) := fun b u n z => by
  rw [upd_ne n]
  exact z
theorem Frm.tf {d : Addr} {H H' : Hp} {xs : List V} (e : Frm d H H') (h : H d = some (.lst xs)) : TF H H' := fun c ys z => by
  rcases z with z | ⟨u, z⟩
  · exact .inl (e c _ (fun q => by rw [q, h] at z; cases z) z)
  · exact .inr ⟨u, e c _ (fun q => by rw [q, h] at z; cases z) z⟩
theorem new_same {H : Hp} {p : Addr} {o : HO} (h : H p = none) : Same H (upd H p o) := fun b u z => by
  rw [upd_ne (ne_of_none z h)]
  exact z
theorem same_tf {H H' : Hp} (s : Same H H') : TF H H' := fun c zs z => by
  rcases z with z | ⟨u, z⟩
  · exact .inl (s _ _ z)
  · exact .inr ⟨u, s _ _ z⟩
theorem frm_same {H0 H1 H2 : Hp} {d : Addr} (s : Same H0 H1) (n : H0 d = none) (f : Frm d H1 H2) : Same H0 H2 := fun b o z => f b o (ne_of_none z n) (s b o z)
/-- a row of draws at d, good for n more -/
def Deck (H : Hp) (d : Addr) (n : Nat) : Prop := ∃ r m i c : Int, H d = some (.lst [.int r, .int m, .int i, .int c]) ∧ 0 ≤ m ∧ m < 2305843009213693951 ∧ 0 ≤ i ∧ i ≤ 1000 ∧ 0 ≤ c ∧ c + n ≤ 1000000000000
theorem Deck.le {H : Hp} {d : Addr} {n k : Nat} (h : Deck H d n) (hk : k ≤ n) : Deck H d k := by
  obtain ⟨r, m, i, c, h0, h1, h2, h3, h4, h5, h6⟩ := h
  exact ⟨r, m, i, c, h0, h1, h2, h3, h4, h5, by omega⟩
theorem Deck.lst {H : Hp} {d : Addr} {n : Nat} (h : Deck H d n) : ∃ xs, H d = some (.lst xs) := by
  obtain ⟨r, m, i, c, h0, _⟩ := h
  exact ⟨_, h0⟩
theorem Deck.keep {H H' : Hp} {d : Addr} {n : Nat} (h : Deck H d n) (e : H' d = H d) : Deck H' d n := by
  obtain ⟨r, m, i, c, h0, h1⟩ := h
  exact ⟨r, m, i, c, by rw [e]; exact h0, h1⟩
theorem Deck.same {H H' : Hp} {d : Addr} {n : Nat} (h : Deck H d n) (e : Same H H') : Deck H' d n := by
  obtain ⟨r, m, i, c, h0, h1⟩ := h
  exact ⟨r, m, i, c, e _ _ h0, h1⟩
theorem small_ab {i : Int} {n : Nat} (h0 : 0 ≤ i) (h1 : i < 2 ^ n) : i.natAbs < 2 ^ n := by
  have e : ((i.natAbs : Nat) : Int) = i := Int.natAbs_of_nonneg h0
  have h2 : ((i.natAbs : Nat) : Int) < ((2 ^ n : Nat) : Int) := by
    rw [e, Int.natCast_pow]
    exact h1
  exact Int.ofNat_lt.mp h2
theorem pow63 : (2 : Int) ^ 63 = 9223372036854775808 := by decide
theorem pow20 : (2 : Int) ^ 20 = 1048576 := by decide
theorem pow40 : (2 : Int) ^ 40 = 1099511627776 := by decide
theorem pow122 : (2 : Nat) ^ 122 = 5316911983139663491615228241121378304 := by decide
theorem pow120 : (2 : Nat) ^ (40 + 40 + 40) = 1329227995784915872903807060280344576 := by decide
theorem ne_int {i j : Int} (h : ¬ (V.int i = V.int j)) : i ≠ j := fun e => h (by rw [e])
theorem ty_tup {K : PySem.W.Frag} {H : Hp} {a : Addr} {xs : List V} (h : SqT K H a xs) : TyX K H (.ref a) (.type "tuple") := by
  rcases h with (h | ⟨o, h⟩) | ⟨o, _, _, h, hc, _⟩
  · exact .base (.tup h)
  · exact .fTuple h
  · exact .kTuple h hc
section
variable {K : PySem.W.Frag} {H : Hp}
theorem dpa_len : ∀ {vs : List V} {ds : List PyData}, DpAll K H vs ds → vs.length = ds.length
  | [], _, h => by cases h; rfl
  | v :: vs, _, h => by
    cases h with
    | cons _ b => rw [List.length_cons, List.length_cons, dpa_len b]
theorem dpa_get : ∀ {vs : List V} {ds : List PyData} {i : Nat} {e : PyData}, DpAll K H vs ds → ds[i]? = some e → ∃ v, vs[i]? = some v ∧ Dp K H v e
  | [], _, i, e, h, he => by cases h; cases he
  | v :: vs, _, 0, e, h, he => by
    cases h with
    | cons a _ => cases he; exact ⟨v, rfl, a⟩
  | v :: vs, _, i + 1, e, h, he => by
    cases h with
    | cons _ b => exact dpa_get (vs := vs) (i := i) b he
end
/-! ### x is True, x is not True, x any value -/
def rIsT (c : Bool) : R2 := fun x y H Q => y = .bl c ∧ Q (.bl (decide (x = .bl c))) H
theorem plain_bl (c : Bool) {x : V} {u : Value} (r : RelV x u) : plainIs u (.bool c) = true := by
  cases x <;> first | (cases r; rfl) | (obtain ⟨t, rfl⟩ := r; rfl)
section
variable {X : Cx}
theorem op_isT (c : Bool) : OpR X (compareOp .Is) (rIsT c) := by
  intro pins s σ H x y v u Q I rx ry h
  obtain ⟨rfl, q⟩ := h
  cases (show u = Value.bool c from ry)
  by_cases e : x = .bl c
  · subst e
    cases (show v = Value.bool c from rx)
    exact wpAny_is_self (plain_bl c rx) ⟨.bl true, H, I, rfl, by simpa using q⟩
  · refine wpAny_is_other (plain_bl c rx) (fun z => e ?_) ⟨.bl false, H, I, rfl, by simpa [e] using q⟩
    subst z
    exact RelV.inj rx rfl
theorem op_notT (c : Bool) : OpR X (compareOp .IsNot) (fun x y H Q => y = .bl c ∧ Q (.bl (!decide (x = .bl c))) H) := by
  intro pins s σ H x y v u Q I rx ry h
  obtain ⟨rfl, q⟩ := h
  cases (show u = Value.bool c from ry)
  by_cases e : x = .bl c
  · subst e
    cases (show v = Value.bool c from rx)
    exact wpAny_isNot_self (plain_bl c rx) ⟨.bl false, H, I, rfl, by simpa using q⟩
  · refine wpAny_isNot_other (plain_bl c rx) (fun z => e ?_) ⟨.bl true, H, I, rfl, by simpa [e] using q⟩
    subst z
    exact RelV.inj rx rfl
end

/-! ### data without lists and dicts -/
mutual
def NL : PyData → Prop
  | .none => True
  | .bool _ => True
  | .int _ => True
  | .str _ => True
  | .list _ => False
  | .tuple ds => NLs ds
  | .dict _ => False
def NLs : List PyData → Prop
  | [] => True
  | d :: ds => NL d ∧ NLs ds
end
section
variable {K : PySem.W.Frag} {H H' : Hp}
mutual
theorem dp_nl (e : TF H H') : ∀ (d : PyData) (v : V), NL d → Dp K H v d → Dp K H' v d
  | .none, _, _, h => by cases h; exact .non
  | .bool _, _, _, h => by cases h; exact .bl _
  | .int _, _, _, h => by cases h; exact .int _
  | .str _, _, _, h => by cases h; exact .str _
  | .list _, _, r, _ => r.elim
  | .dict _, _, r, _ => r.elim
  | .tuple ds, _, r, h => by
    cases h with
    | tup a b => exact .tup (e.sq a) (dpa_nl e ds _ r b)
theorem dpa_nl (e : TF H H') : ∀ (ds : List PyData) (vs : List V), NLs ds → DpAll K H vs ds → DpAll K H' vs ds
  | [], _, _, h => by cases h; exact .nil
  | d :: ds, _, r, h => by
    cases h with
    | cons a b => exact .cons (dp_nl e d _ r.1 a) (dpa_nl e ds _ r.2 b)
end
end
end KF
set_option maxRecDepth 100000
set_option maxHeartbeats 4000000
/-! A caught error that is kept under a name behind its try. -/
namespace KD
open PySem PySem.Spec PyProof.Rows L2
/-- a caught error that is kept: its class, its dict -/
def CxO (cl : Value) (dx : Option Addr) (ae : Addr) : HO := .ext fun hp => ∃ (ob : Obj) (fv : Array Value), hp.get? ae = some ob ∧ Zc cl dx ob ∧ ob.data = .fields fv
theorem cxo_ok {P : Program} {w : World} {G : Hp} {hp : Heap} {ae : Addr} {cl : Value} {dx : Option Addr} {ob : Obj} {fv : Array Value} (there : hp.get? ae = some ob) (zz : Zc cl dx ob) (dd : ob.data = .fields fv) : ObjOk P w G hp ae (CxO cl dx ae) :=
  ⟨⟨ob, fv, there, zz, dd⟩, ⟨ob, there⟩, fun _ _ ⟨o1, f1, y1, y2⟩ kp => ⟨o1, f1, kp o1 y1, y2⟩⟩
section
variable {X : Cx} {pins : List (Addr × Obj)} {σ : L2.St} {G : Hp} {s : Shared}
theorem track {ae : Addr} {cl : Value} {dx : Option Addr} {ob : Obj} {fv : Array Value} (J : Inv X pins σ G s) (there : s.heap.get? ae = some ob) (zz : Zc cl dx ob) (dd : ob.data = .fields fv) (na : G ae = none)
    (n0 : X.s_0.heap.get? ae = none) (nL : ae ≠ X.env.locals) (np : ∀ p ∈ X.pn ++ pins, p.1 ≠ ae) : Inv X pins σ (upd G ae (CxO cl dx ae)) s := by
  have ne0 : ∀ b o, X.s_0.heap.get? b = some o → b ≠ ae := fun b o eb z => by
    rw [z, n0] at eb
    cases eb
  refine ⟨J.ok, J.os, J.bare, ⟨J.base.keep, J.base.slot, fun b o eb n hx => ?_, J.base.there, fun b xs t => ?_, fun b o u t => ?_, fun b ps t => ?_⟩, J.loc, J.cell, ?_, fun x c ec => ?_, fun p hp => ?_, fun b u eb => ?_, J.len⟩
  · rw [upd_ne (ne0 b o eb)]
    exact J.base.free b o eb n hx
  · have y := J.base.tups b xs t
    rw [upd_ne (ne_of_none y na)]
    exact y
  · have y := J.base.frzs b o u t
    rw [upd_ne (ne_of_none y na)]
    exact y
  · obtain ⟨m, y⟩ := J.base.tbls b ps t
    exact ⟨m, by rw [upd_ne (ne_of_none y na)]; exact y⟩
  · rw [upd_ne (Ne.symm nL)]
    exact J.free
  · have nc : c ≠ ae := fun z => by
      obtain ⟨v, o, ho, hd⟩ := J.cell x c ec
      rw [z, there] at ho
      cases ho
      rw [dd] at hd
      cases hd
    rw [upd_ne nc]
    exact J.freeC x c ec
  · obtain ⟨q1, q2, q3, q4, q5⟩ := J.pin p hp
    exact ⟨q1, by rw [upd_ne (np p hp)]; exact q2, q3, q4, q5⟩
  · by_cases hb : b = ae
    · subst hb
      rw [upd_same] at eb
      cases eb
      exact cxo_ok there zz dd
    · rw [upd_ne hb] at eb
      exact (J.hok b u eb).stay (fun _ _ _ q => q) (fun c q => by rw [upd_ne (ne_of_none q na)]; exact q) fun c xs q => by rw [upd_ne (ne_of_none q na)]; exact q
end
/-- the clause's wish, the error kept behind it -/
def wKeep (K : PySem.W.Frag) (c : Value) (i : Nat) (ts : Addr → Value → Option Addr → TS) (Wo : WX) (D : Ends) : WX := fun cl dx σ G =>
  ∃ b, PySem.W.exmOne K cl c = some b ∧ (b = true → ∀ ae, G ae = none → ts ae cl dx { nx := fun σ' G' => D.nx (σ'.set i none) (upd G' ae (CxO cl dx ae)), rt := fun _ _ => False, bk := fun _ _ => False, ct := fun _ _ => False } (σ.set i (some (.ref ae))) G) ∧ (b = false → Wo cl dx σ G)
section
variable {X : Cx} {x n : Str} {c : Value} {i : Nat} {body su : List Stmt} {b1 : Stmt} {np pa pb : Pos} {tb : WX → TS} {ts : Addr → Value → Option Addr → TS} {Wo : WX}
theorem ps_try_keep (stk : X.stack = X.env :: X.outer) (fr : X.env.frame = some X.env.locals) (hex : X.ex = []) (nd : X.N.Nodup) (ni : X.N[i]? = some n) (lo : X.env.kindOf n = some .local) (nm : Names X x c) (tk : Takes X Wo)
    (hb : ∀ (W : WX) (pn : List (Addr × Obj)) (xe : Value → Shared → Prop), Takes (X.tr pn xe) W → PassesOwn (model X.prog X.w) X.A X.env xe → PSs (X.tr pn xe) body (tb W))
    (hsu : ∀ (ae : Addr) (ob : Obj) (cl : Value) (dx : Option Addr) (pn : List (Addr × Obj)), Zc cl dx ob → (∃ vs, ob.data = .fields vs) → PSs (X.suite ae ((ae, ob) :: pn)) (b1 :: su) (ts ae cl dx)) :
    PS X (.Try body [.ExceptHandler (some (.Name x np)) (some n) (b1 :: su) pb] [] [] pa) (fun D σ G => tb (wKeep X.K c i ts Wo D) D σ G) := by
  refine ⟨fun pins s σ G D I h => ?_⟩
  have ok := I.ok
  have frs2 : X.A.frames = some (X.env :: X.outer) := by rw [ok.frames, stk]
  refine wpAny_Try_except ?_
  have start := (hb (wKeep X.K c i ts Wo D) (X.pn ++ pins) (fun e s1 => wpAny (model X.prog X.w) X.A (noteFrame e X.env) (fun _ s2 => wpAny (model X.prog X.w) X.A (setFlight e none) (fun _ s3 =>
    wpAny (model X.prog X.w) X.A (handleBy e X.env [.ExceptHandler (some (.Name x np)) (some n) (b1 :: su) pb]) (SP X pins D) X.xe s3) X.xe s2) X.xe s1) (fun u s' xx => ?caught) PassesOwn.looking).run [] s σ G D (I.toTry _) h
  · refine wpAny_mono start (fun f t1 hsp => ?_) (fun e t1 he => he)
    cases f with
    | next =>
      obtain ⟨σ1, G1, J1, q⟩ := hsp
      exact wpAny_execs_nil ⟨σ1, G1, J1.ofTry ok, q⟩
    | brk =>
      obtain ⟨σ1, G1, J1, q⟩ := hsp
      exact ⟨σ1, G1, J1.ofTry ok, q⟩
    | cont =>
      obtain ⟨σ1, G1, J1, q⟩ := hsp
      exact ⟨σ1, G1, J1.ofTry ok, q⟩
    | ret u =>
      obtain ⟨v, σ1, G1, J1, rr, q⟩ := hsp
      exact ⟨v, σ1, G1, J1.ofTry ok, rr, q⟩
  case caught =>
    obtain ⟨ae, Bs, sM, pins1, σ1, G1, cl, dx, rfl, J0, nb, up, sky0, na, os, ag, b, hb1, hyes, hno⟩ := xx
    have J : Inv X pins σ1 G1 sM := J0.ofTry ok
    have sky1 : Sky Bs (X.env :: X.outer) ae (Zc cl dx) X.env.locals s'.heap := by rw [← stk]; exact sky0
    show wpAny (model X.prog X.w) X.A (noteFrame (.ref ae) X.env) _ _ _
    refine Sky.land Zc.steady frs2 fr sky1 fun h3 fl3 up3 => ?_
    have J3 : Inv X pins σ1 G1 { s' with heap := h3 } := J.landed nb fl3.1 (up.trans up3) os ag
    obtain ⟨o3, v3, at3, z3, d3⟩ := fl3.there
    have apart : ∀ {hp : Heap} {o : Obj} {vs : Array Value}, hp.FunFrames Bs (X.env :: X.outer) → hp.get? ae = some o → o.data = .fields vs → ae ∉ frs (X.env :: X.outer) := fun {hp o vs} ff e dd hm => by
      obtain ⟨_, o', e', hnf⟩ := ff.mem hm
      rw [e] at e'
      cases e'
      exact hnf _ dd
    have nfr := apart fl3.2.2.1 at3 d3
    have inFr : ∀ p : Addr, p ∈ frs (X.env :: X.outer) → p = X.env.locals ∨ p ∈ X.fs := fun p hm => by
      obtain ⟨ev, hev, q⟩ := List.mem_filterMap.mp hm
      rcases List.mem_cons.mp hev with z | z
      · rw [z, fr] at q
        exact .inl (Option.some.inj q).symm
      · exact .inr (List.mem_filterMap.mpr ⟨ev, z, q⟩)
    have nL : ae ≠ X.env.locals := fun z => nfr (List.mem_filterMap.mpr ⟨X.env, List.mem_cons_self, by rw [fr, z]⟩)
    have nF : ae ∉ X.fs := fun hm => by
      obtain ⟨ev, hev, q⟩ := List.mem_filterMap.mp hm
      exact nfr (List.mem_filterMap.mpr ⟨ev, List.mem_cons_of_mem _ hev, q⟩)
    have notB : Bs.get? ae = none := fl3.2.1
    have n0 : X.s_0.heap.get? ae = none := by
      cases e : X.s_0.heap.get? ae with
      | none => rfl
      | some o =>
        obtain ⟨o2, e2⟩ := J.base.there ae o e (by rw [hex]; exact fun z => nomatch z)
        have e3 := nb ae o2 e2 (by show ae ∉ frs X.stack; rw [stk]; exact nfr)
        rw [notB] at e3
        cases e3
    have npin : ∀ p ∈ X.pn ++ pins, p.1 ≠ ae := fun p hp z => by
      obtain ⟨q1, q2, q3, q4, q5⟩ := J.pin p hp
      have e3 := nb p.1 p.2 q1 (by
        show p.1 ∉ frs X.stack
        rw [stk]
        exact fun hm => (inFr p.1 hm).elim q3 q4)
      rw [z, notB] at e3
      cases e3
    have S3 := J3.suite at3 d3 na nL nF
    refine wpAny_handleBy_cons (codeAny_handlers_test ?_) (fun z => by cases z)
    have LT : PySem.W.Looks (model X.prog X.w) h3 (typeOf (.ref ae)) cl := fun A Q E s k q => wpAny_typeOf_ref (k _ _ at3) (by rw [z3.1]; exact q)
    have LK := PySem.W.exm_one (M := model X.prog X.w) J3.kIn LT hb1
    have test : ∀ {Q : Value → Shared → Prop} {E : Value → Shared → Prop}, Q c { s' with heap := h3 } → wpAny (model X.prog X.w) (X.A.mark (some (.ref ae))) (eval (.Name x np) X.env) Q E { s' with heap := h3 } := fun {Q E} q => by
      obtain ⟨g1, g2, g3 | ⟨g3, g4, g5⟩⟩ := nm
      · exact ld_glob (X := X.suite ae ((ae, o3) :: (X.pn ++ pins))) S3 g1 g3 q g2
      · exact ld_blt (X := X.suite ae ((ae, o3) :: (X.pn ++ pins))) S3 g1 g3 g4 q g5 g2
    refine test (LK.here ?_)
    cases b with
    | true =>
      refine codeAny_handlers_suite_as (HandSPX.lands_againZ fl3 fun h4 fl4 up4 => ?_)
      have J4 : Inv X pins σ1 G1 { s' with heap := h4 } := J.landed nb fl4.1 ((up.trans up3).trans up4) os ag
      obtain ⟨o4, v4, at4, z4, d4⟩ := fl4.there
      have S4 := J4.suite at4 d4 na nL nF
      refine store_ok (X := X.suite ae ((ae, o4) :: (X.pn ++ pins))) (v := .ref ae) S4 nd ni (.inl lo) rfl (fun s5 S5 => ?_) (.inr lo)
      refine wpAny_mono ((hsu ae o4 cl dx (X.pn ++ pins) z4 ⟨_, d4⟩).run [] s5 _ G1 _ S5 (hyes rfl ae na)) (fun f s6 hsp => ?_) (fun _ _ z => False.elim z)
      cases f with
      | next =>
        obtain ⟨σ6, G6, S6, q6⟩ := hsp
        obtain ⟨p1, p2, p3, p4, p5⟩ := S6.pin (ae, o4) (List.mem_append_left _ List.mem_cons_self)
        have T6 := track (S6.unsuite ok) p1 z4 d4 p2 n0 nL npin
        exact gone_ok T6 nd ni lo fun s7 J7 => ⟨_, _, J7, q6⟩
      | brk =>
        obtain ⟨σ6, G6, S6, q6⟩ := hsp
        exact q6.elim
      | cont =>
        obtain ⟨σ6, G6, S6, q6⟩ := hsp
        exact q6.elim
      | ret u =>
        obtain ⟨v6, σ6, G6, S6, r6, q6⟩ := hsp
        exact q6.elim
    | false =>
      show wpAny _ X.A (handleBy (.ref ae) X.env []) _ _ _
      refine wpAny_handleBy_nil ?_
      obtain ⟨k1, k2, k3, o5, v5, T5, oT, ts', he5, hz5, hd5, h5, hr5⟩ := id fl3
      unfold PySem.passOn
      refine wpAny_bind (wpAny_field he5 hd5 h5 ?_)
      rw [if_neg (show ¬ ((Value.ref T5 == Value.none) = true) from by simp)]
      have fin2 : wpAny (model X.prog X.w) X.A (setFlight (.ref ae) X.env.frame) (fun _ s4 => wpAny (model X.prog X.w) X.A (throw (.ref ae) : Sem Flow) (SP X pins D) X.xe s4) X.xe { s' with heap := h3 } := by
        rw [fr]
        refine HandSPX.setFlight_upZ fl3 fun h4 hh4 up4 => wpAny_throw (tk _ _ ?_)
        exact ⟨ae, Bs, sM, pins, σ1, G1, cl, dx, rfl, J, nb, (up.trans up3).trans up4, .inr (.inr (by rw [stk]; exact hh4)), na, os, ag, hno rfl⟩
      first
        | exact wpAny_bind (wpAny_pure (wpAny_bind fin2))
        | exact wpAny_bind fin2
end
/-! ### what is asked of it -/
def rIsC (K : PySem.W.Frag) : List V → Hp → VK → Prop := fun xs G Q => ∃ (D ae dx : Addr) (c : V) (cv : Value) (b : Bool) (fs : List (Str × V)), xs = [.ref ae, c] ∧ ExcC K D ∧ G ae = some (CxO (.ref D) (some dx) ae) ∧ G dx = some (.xd fs) ∧ ClsV c cv ∧
  PySem.W.kitOne K (.ref D) cv = some b ∧ Q (.bl b) G
def rIsCT (K : PySem.W.Frag) : List V → Hp → VK → Prop := fun xs G Q => ∃ (D ae dx tp : Addr) (cs : List V) (us : List Value) (b : Bool) (fs : List (Str × V)), xs = [.ref ae, .ref tp] ∧ ExcC K D ∧ G ae = some (CxO (.ref D) (some dx) ae) ∧ G dx = some (.xd fs) ∧ G tp = some (.tup cs) ∧
  Paired ClsV cs us ∧ PySem.W.kitAny K (.ref D) us = some b ∧ Q (.bl b) G
section
variable {X : Cx} {pins : List (Addr × Obj)} {σ : L2.St} {G : Hp} {s : Shared}
theorem inst_kept {D ae dx : Addr} {fs : List (Str × V)} (J : Inv X pins σ G s) (ha : G ae = some (CxO (.ref D) (some dx) ae)) (hd : G dx = some (.xd fs)) :
    ∃ ob od, PySem.W.InstAt s.heap ae ob D (some od) ∧ ∀ n, ∃ m, PySem.W.lookIn n od = some m ∧ RelO (fs.lookup n) m := by
  obtain ⟨⟨ob, fv, g1, g2, g3⟩, _⟩ := J.hok ae _ ha
  have hx : ObjOk X.prog X.w G s.heap dx (.xd fs) := J.hok dx _ hd
  obtain ⟨mA, hns, hr⟩ := hx
  obtain ⟨od, hod, look⟩ := lookIn_ns hns
  exact ⟨ob, od, ⟨g1, g2.1, by unfold PySem.W.notCls; rw [g3] <;> rfl, by rw [g2.2]; exact hod⟩, fun n => ⟨mA n, look n, hr n⟩⟩
theorem call_isC : CallR X (.builtin "isinstance") (rIsC X.K) := by
  intro pins s σ G xs us Q I r h
  obtain ⟨D, ae, dx, c, cv, b, fs, rfl, C, ha, hd, hcv, e, q⟩ := h
  obtain ⟨v1, v2, rfl, q1, q2⟩ := vals2 r
  have e2 := hcv.eq q2
  subst e2
  cases (show v1 = Value.ref ae from q1)
  obtain ⟨ob, od, J, _⟩ := inst_kept I ha hd
  obtain ⟨cd, hcd, _⟩ := PySem.W.any_some C.hd
  exact PySem.W.kia_one (PySem.W.kitx_exc (by rw [hcd]; rfl) C.hg C.hk C.hs C.ha C.hn C.ht C.hm) I.kIn J e (fun z => nomatch z) fun tk => ⟨.bl b, G, I.tok tk, rfl, q⟩
theorem call_isCT : CallR X (.builtin "isinstance") (rIsCT X.K) := by
  intro pins s σ G xs us Q I r h
  obtain ⟨D, ae, dx, tp, cs, ws, b, fs, rfl, C, ha, hd, hT, k, e, q⟩ := h
  obtain ⟨v1, v2, rfl, q1, q2⟩ := vals2 r
  cases (show v2 = Value.ref tp from q2)
  cases (show v1 = Value.ref ae from q1)
  obtain ⟨ob, od, J, _⟩ := inst_kept I ha hd
  obtain ⟨cd, hcd, _⟩ := PySem.W.any_some C.hd
  obtain ⟨_, its, rv, o, g1, g2, n, g3⟩ := (show ObjOk X.prog X.w G s.heap tp (.tup cs) from I.hok tp _ hT)
  have e3 := ClsV.all k rv
  subst e3
  obtain ⟨oc, od2, dt, sl⟩ := o
  simp only at g2 g3
  subst g2 g3
  exact PySem.W.kia_tup (PySem.W.kitx_exc (by rw [hcd]; rfl) C.hg C.hk C.hs C.ha C.hn C.ht C.hm) I.kIn J g1 e (fun z => nomatch z) fun tk => ⟨.bl b, G, I.tok tk, rfl, q⟩
/-- e.f, e the kept error -/
def tXk (K : PySem.W.Frag) (f : Str) (te : TE) : TE := fun σ G Q => te σ G fun y G1 => ∃ (ae C dx : Addr) (fs : List (Str × V)) (v : V), y = .ref ae ∧ G1 ae = some (CxO (.ref C) (some dx) ae) ∧ XfC K C ∧ PySem.W.findIn K (.ref C) f = some none ∧ G1 dx = some (.xd fs) ∧ fs.lookup f = some v ∧ Q v G1
theorem pe_xk {e : Expr} {te : TE} {pos : Pos} {f : Str} (he : PE X e te) (hb : attributeBase e f X.env (eval e X.env) = eval e X.env := by rfl) : PE X (.Attribute e f pos) (tXk X.K f te) := by
  refine ⟨fun pins s σ G Q I h => ?_⟩
  refine attr_of hb (thn (he.run pins s σ G _ I h) fun u s1 hh => ?_)
  obtain ⟨y, G1, I1, rx, ae, C, dx, fs, v, ex, ha, T, hno, hd, l, q⟩ := hh
  subst ex
  obtain rfl : u = Value.ref ae := rx
  obtain ⟨ob, od, J, look⟩ := inst_kept I1 ha hd
  obtain ⟨m, hl, hr⟩ := look f
  obtain ⟨u2, hu, ru⟩ := RelO.some_of (v := v) (o := m) (by rw [← l]; exact hr)
  exact HandSPX.exc_get I1.kIn J T.ga T.gg T.exC (PySem.W.findObj_own T.hdC hno rfl (by rw [hl, hu])) (handed_of ru) ⟨v, G1, I1.tok _, ru, q⟩
end
end KD
set_option maxRecDepth 100000
set_option maxHeartbeats 4000000
/-! enumerate of a tuple, from any number on; sorted of a dict of any size; dict of a tuple of pairs. -/
namespace PySem
open Sem (wp)
set_option maxHeartbeats 1000000 in
theorem kd_meets_enum1 {v : Value} {o : Obj} {Hv : Heap → Prop} (B : Begins v o Hv) :
    Meets (Builtin.«enumerate.__new__» ⟨[.type "enumerate", v], []⟩) (fun _ R s => Hv s.heap ∧
      R (.ok (.ret (.ref (s.heap.push o).objs.size))) { s with heap := (s.heap.push o).push { cls := .type "enumerate", data := .fields #[.none, .bool false, .ref s.heap.objs.size, rawInt 0, .none, .none] } }) :=
  .of_wp fun prog w A R s hh => by
    obtain ⟨hp, g, d, tk, os⟩ := s
    obtain ⟨v1, hh⟩ := hh
    have hsub := sub_enumerate
    have start : ∀ {A' : Around} {E : Value → Shared → Prop} {Q : Value → Shared → Prop}, Q (.ref hp.objs.size) ⟨hp.push o, g, d, tk, os⟩ → wpAny (model prog w) A' (pyIter v) Q E ⟨hp, g, d, tk, os⟩ :=
      fun q => B.iter prog w _ _ ⟨hp, g, d, tk, os⟩ _ v1 q
    wp_walk using start
    refine wpAny_stack_any fun st => wpAny_pure ?_
    split
    · rename_i c _ _ _ _ _
      cases (c == Value.type "enumerate")
      · wp_walk using start
        exact ⟨_, rfl, hh⟩
      · wp_walk using start
        exact ⟨_, rfl, hh⟩
    · wp_walk using start
      exact ⟨_, rfl, hh⟩
section
variable {prog : Program} {w : World} {A : Around} {E : Value → Shared → Prop} {s : Shared}
theorem kd_enum1 {v : Value} {o : Obj} {Hv : Heap → Prop} {Q : Value → Shared → Prop} (B : Begins v o Hv) (v1 : Hv s.heap)
    (hq : ∀ h', IsEnum h' (s.heap.objs.size + 1) s.heap.objs.size 0 .none → h'.get? s.heap.objs.size = some o → h'.objs.size = s.heap.objs.size + 2 →
      (∀ b o, s.heap.get? b = some o → h'.get? b = some o) → Q (.ref (s.heap.objs.size + 1)) { s with heap := h' }) :
    wpAny (model prog w) A (call (.type "enumerate") [v]) Q E s := by
  refine callType_new F.called_enumerate (by decide) (F.typeCall_enumerate_1 _) (F.newCall_enumerate_1 _) (fun ob => F.args_object_init_2 ob _) F.entry_enumerate_new
    (kd_meets_enum1 B) ⟨v1, ?_⟩
  have hz : (s.heap.push o).objs.size = s.heap.objs.size + 1 := Heap.size_push ..
  show _ ∧ _
  rw [hz]
  have he : IsEnum ((s.heap.push o).push { cls := .type "enumerate", data := .fields #[.none, .bool false, .ref s.heap.objs.size, rawInt 0, .none, .none] }) (s.heap.objs.size + 1) s.heap.objs.size 0 .none := by
    have := Heap.get?_push_size (s.heap.push o) (o := { cls := .type "enumerate", data := .fields #[.none, .bool false, .ref s.heap.objs.size, rawInt 0, .none, .none] }) rfl
    rw [hz] at this
    exact this
  exact ⟨⟨_, he, rfl⟩, hq _ he (Heap.get?_push_of_some _ (Heap.get?_push_size _ B.free)) (by rw [Heap.size_push, hz]) fun b o x => Heap.get?_push_of_some _ (Heap.get?_push_of_some _ x)⟩
end
end PySem
namespace KD
open PySem PySem.Spec PyProof.Rows L2
/-- the tuple at a, each item behind its number, from c on, in a new pair -/
def Ity (K : PySem.W.Frag) (a : Addr) (c : Int) : It :=
  ⟨fun i G => ∃ (xs : List V) (x : V), SqT K G a xs ∧ xs[i]? = some x, fun i G v G' => ∃ t x, v = .ref t ∧ G t = none ∧ G' = upd G t (.tup [.int (c + (i : Nat)), x]) ∧ ∀ xs, SqT K G a xs → xs[i]? = some x, fun i G => ∃ xs : List V, SqT K G a xs ∧ xs.length ≤ i⟩
theorem turn_ity {P : Program} {w : World} {K : PySem.W.Frag} {elts : List Expr} {kk : Nat} {tpos : Pos} (a e it : Addr) (c : Int) :
    Turn P w K (.Tuple elts kk tpos) (Ity K a c) [e, it] e (fun i h => (∃ old, IsEnum h e it (c + ((i : Nat) : Int)) old) ∧ h.IsTupleIter it a i ∧ e ≠ it) where
  mem := by simp
  obj := fun i h st b hb => by
    obtain ⟨⟨old, he⟩, ⟨o, ho, _, hd⟩, _⟩ := st
    have z : b = e ∨ b = it := by simpa using hb
    rcases z with z | z
    · rw [z]
      exact ⟨_, he, fun v q => nomatch q⟩
    · rw [z]
      exact ⟨o, ho, fun v q => by rw [hd] at q; cases q⟩
  keep := fun i h h' st k => let ⟨⟨old, he⟩, hi, hne⟩ := st; ⟨⟨old, k e (by simp) _ he⟩, hi.at fun o q => k it (by simp) o q, hne⟩
  item := by
    intro X hP hw hK hc i pins s σ G E I hf st hg
    subst hP hw hK
    obtain ⟨⟨old, he⟩, hit, hne⟩ := st
    obtain ⟨xs, x, hq, hx⟩ := hg
    obtain ⟨its, rv, p, hz⟩ := I.tuple hq
    obtain ⟨u, hu, ru⟩ := rv.get hx
    have p2 : s.heap.IsTuple a its.toArray := p
    obtain ⟨oa, g1, g2, n1, g3⟩ := id p2
    obtain ⟨oi, i1, i2, i3⟩ := id hit
    have nai : a ≠ it := fun z => by
      rw [z, i1] at g1
      cases g1
      rw [i3] at g3
      cases g3
    have nea : e ≠ a := fun z => by
      have he2 := he
      unfold IsEnum at he2
      rw [z, g1] at he2
      cases he2
      cases g3
    have hel : e < s.heap.objs.size := Heap.lt_size he
    have hil : it < s.heap.objs.size := Heap.lt_size i1
    have D := Draws.tuple (prog := X.prog) (w := X.w) (A := X.A.in1) (I.ok.hd hc) it a nai its.toArray
    have hin : i < its.toArray.size := by
      have z : i < its.length := (List.getElem?_eq_some_iff.mp hu).1
      simpa using z
    refine wpAny_pyNext_enum_itemC D he ⟨hit, p2⟩ hin hne (by simp [hne, nea]) fun y h' tk hy ho hst' hT hsz hk => ?_
    have hy2 : y = u := by
      have z : its[i]? = some y := by simpa using hy
      rw [hu] at z
      exact (Option.some.inj z).symm
    subst hy2
    refine ⟨_, rfl, wpAny_letOwnedTupleGo_enum (s := { s with heap := h', toks := tk + 1 }) ho fun h2 he2 sb => ?_⟩
    have hT2 : h2.get? s.heap.objs.size = some { cls := .type "tuple", data := .seq #[.int (c + ((i : Nat) : Int)) tk, y] } := (sb.2 _ (Nat.ne_of_gt hel)).trans hT
    have new : ObjOk X.prog X.w (upd G s.heap.objs.size (.tup [.int (c + ((i : Nat) : Int)), x])) h2 s.heap.objs.size (.tup [.int (c + ((i : Nat) : Int)), x]) :=
      ⟨by show 2 ≤ sizeLine; decide, [.int (c + ((i : Nat) : Int)) tk, y], .cons ⟨_, rfl⟩ (.cons ru .nil), ⟨_, hT2, rfl, _, rfl⟩⟩
    have I1 : Inv X pins σ (upd G s.heap.objs.size (.tup [.int (c + ((i : Nat) : Int)), x])) { s with heap := h2, toks := tk + 1 } :=
      I.turnedNew (ch := [e, it]) (fun b ob hb q => (sb.2 b (fun z => hb (by simp [z]))).trans (hk b ob (fun z => hb (by simp [z])) (fun z => hb (by simp [z])) q)) hf (Nat.le_refl _) new
    refine ⟨.ref s.heap.objs.size, _, I1, rfl, ⟨_, x, rfl, I.hok.fresh (Nat.le_refl _), rfl, fun ys hys => by rw [I.tuple_inj hys hq]; exact hx⟩, ⟨⟨y, ?_⟩, hst'.1.at fun o q => (sb.2 it (Ne.symm hne)).trans q, hne⟩, fun b hb => ?_⟩
    · have e1 : c + ((i + 1 : Nat) : Int) = c + (i : Int) + 1 := by omega
      rw [e1]
      exact he2
    · have hb2 : b < s.heap.objs.size := by
        have z : b = e ∨ b = it := by simpa using hb
        rcases z with z | z
        · rw [z]; exact hel
        · rw [z]; exact hil
      rw [upd_ne (Nat.ne_of_lt hb2)]
      exact (hf b hb).1
  done := by
    intro X hP hw hK hc i pins s σ G E I hf st hg
    subst hP hw hK
    obtain ⟨⟨old, he⟩, hit, hne⟩ := st
    obtain ⟨xs, hq, hx⟩ := hg
    obtain ⟨its, rv, p, hz⟩ := I.tuple hq
    have p2 : s.heap.IsTuple a its.toArray := p
    obtain ⟨oa, g1, g2, n1, g3⟩ := id p2
    obtain ⟨oi, i1, i2, i3⟩ := id hit
    obtain ⟨f0, f1, f2, f3, f4, f5⟩ := hf it (by simp)
    have hl := rv.length
    have hit2 := hit
    have ends : ∀ h', Heap.ExtBut it s.heap h' → (none : Option Value) = none ∧ Inv X pins σ G { s with heap := h' } := fun h' eb => ⟨rfl, I.turned (t' := s.toks) (fun b o hb q => eb b o hb q) f0 f1 f3 f4 f5⟩
    have hT : s.TypeIs (.ref e) "enumerate" := ⟨_, he, rfl⟩
    unfold pyNext
    refine wpAny_bind (wpAny_attempt (wpAny_callSpecial?_slot (name := Str.ofString "__next__") hT F.slot_enumerate_next (wpAny_call_entry F.slot_enumerate_next hT F.entry_enumerate_next ?_ (F.args_enumerate_next_1 _))))
    show wpAny _ _ (field (.ref e) 2 >>= _) _ _ _
    refine wpAny_bind (wpAny_field he rfl (x := .ref it) rfl ?_)
    refine wpAny_bind (wpAny_nextOf_tuple_end (I.ok.hd hc) hit p2 (by simp; omega) fun h' x he' hx' => ?_)
    obtain ⟨o, ho, hc2⟩ := hx'
    refine wpAny_bind (wpAny_isInstance (T := "StopIteration") (b := true) ⟨o, ho, hc2⟩ isSubtype_stop ?_)
    exact wpAny_pure (ends _ he')
  self := fun A i s Q E st h => let ⟨⟨_, he⟩, _⟩ := st; wpAny_pyIter_enum he h
def iEnT (K : PySem.W.Frag) (ta : TA) : TI := fun σ G R => ta σ G fun vs G1 => ∃ a xs, vs = [.ref a] ∧ SqT K G1 a xs ∧ R (Ity K a 0) G1
def iEnTS (K : PySem.W.Frag) (ta tk : TA) : TI := fun σ G R => ta σ G fun vs G1 => tk σ G1 fun zs G2 => ∃ a xs c, vs = [.ref a] ∧ zs = [.int c] ∧ -(2 ^ 63) ≤ c ∧ c < 2 ^ 63 ∧ SqT K G2 a xs ∧ R (Ity K a c) G2
section
variable {X : Cx} {e : Expr} {ta tk : TA} {p pos tpos : Pos} {elts : List Expr} {kk : Nat} {kws : List Keyword}
theorem begun {pins : List (Addr × Obj)} {σ : L2.St} {G : Hp} {s1 : Shared} {R : It → Hp → Prop} {a : Addr} {c : Int} {h' : Heap} (I1 : Inv X pins σ G s1) (he : IsEnum h' (s1.heap.objs.size + 1) s1.heap.objs.size c .none)
    (hit : h'.get? s1.heap.objs.size = some { cls := .type "tuple_iterator", data := .fields #[.ref a, .int 0 0] }) (hk : ∀ b o, s1.heap.get? b = some o → h'.get? b = some o) (q : R (Ity X.K a c) G) :
    PIE X pins σ (.Tuple elts kk tpos) R (.ref (s1.heap.objs.size + 1)) { s1 with heap := h' } := by
  have I2 : Inv X pins σ G { s1 with heap := h' } := I1.kept (t' := s1.toks) hk
  have he0 : IsEnum h' (s1.heap.objs.size + 1) s1.heap.objs.size (c + ((0 : Nat) : Int)) .none := by
    rw [show c + ((0 : Nat) : Int) = c from by omega]
    exact he
  refine ⟨s1.heap.objs.size + 1, [s1.heap.objs.size + 1, s1.heap.objs.size], _, _, G, rfl, I2, turn_ity a (s1.heap.objs.size + 1) s1.heap.objs.size c, ⟨⟨.none, he0⟩, ⟨_, hit, rfl, rfl⟩, Nat.succ_ne_self _⟩, fun b hb => ?_, q⟩
  have z : b = s1.heap.objs.size + 1 ∨ b = s1.heap.objs.size := by simpa using hb
  have hle : s1.heap.objs.size ≤ b := by
    rcases z with z | z
    · rw [z]; exact Nat.le_add_right _ _
    · rw [z]; exact Nat.le_refl _
  exact I1.fpOk hle (I1.hok.fresh hle)
theorem pi_enT (hg : Gl X "enumerate") (hm : X.mg "enumerate" = none) (ha : PA X [e] ta) (hs : starEach [e] X.env = [(false, eval e X.env)] := by rfl) :
    PI X (.Tuple elts kk tpos) (.Call (.Name "enumerate" p) [e] [] pos) (iEnT X.K ta) := by
  refine ⟨fun pins s σ G R I h => ?_⟩
  refine Call_ (ld_blt I hg hm boot_enumerate (PyProof.Rows.callWith_type1 (thn (ha.run pos pins s σ G _ I h) fun us s1 ⟨vs, G1, I1, r1, q1⟩ => ?_) hs rfl))
  obtain ⟨a, xs, ex, hq, q⟩ := q1
  subst ex
  cases r1 with
  | cons r rr =>
    cases rr
    cases r
    obtain ⟨its, rv, p', hz⟩ := I1.tuple hq
    refine kd_enum1 (begins_tuple a its.toArray) (show s1.heap.IsTuple a its.toArray from p') fun h' he hit hsz hk => wpAny_pyIter_enum he (begun I1 he hit hk q)
theorem callWith_typeK {M : Model} {A : Around} {E : Value → Shared → Prop} {s : Shared} {env : Env} {T : String} {e : Expr} {rest : List Expr} {kws : List Keyword} {Q : Value → Shared → Prop}
    (h : wpAny M A (spliced (backTo pos (starEach (e :: rest) env))) (fun vs s1 => wpAny M A (evalAll ((backToKw pos (keywordEach kws env)).map (·.2)))
      (fun kvs s2 => wpAny M A (call (.type T) vs (((backToKw pos (keywordEach kws env)).filterMap (·.1)).zip kvs)) Q E s2) E s1) E s)
    (he : backTo pos (starEach (e :: rest) env) = (false, eval e env) :: backTo pos (starEach rest env) := by rfl)
    (hplain : (backTo pos (starEach (e :: rest) env)).any (·.1) = false := by rfl)
    (hall : (backToKw pos (keywordEach kws env)).all (·.1.isSome) = true := by rfl)
    (hkw : (backToKw pos (keywordEach kws env)).any (·.1.isNone) = false := by rfl) :
    wpAny M A (callWith pos (.type T) [] (backTo pos (starEach (e :: rest) env)) (backToKw pos (keywordEach kws env))) Q E s := by
  unfold callWith
  have hE : wpAny M A (evalArgs (.type T) true (backTo pos (starEach (e :: rest) env)) (backToKw pos (keywordEach kws env))) (fun a s1 => wpAny M A (call (.type T) ([] ++ a.pos) a.kw) Q E s1) E s := by
    rw [he] at h ⊢
    exact PyProof.Rows.evalArgs_kwB hall h
  refine wpAny_bind (wpAny_holding (wpAny_mono hE (fun a s1 g1 => wpAny_bind (wpAny_standAt ?_)) fun _ _ x => x))
  simp only [hplain, hkw, Bool.or_false]
  refine wpAny_bind (wpAny_pure ?_)
  exact wpAny_bind (wpAny_mono g1 (fun r s2 hr => wpAny_bind (wpAny_holding (wpAny_point (wpAny_pure hr)))) fun _ _ x => x)
theorem pi_enTS (hg : Gl X "enumerate") (hm : X.mg "enumerate" = none) (ha : PA X [e] ta) (hk : PK X kws tk)
    (hks : (backToKw pos (keywordEach kws X.env)).filterMap (·.1) = [("start" : Str)] := by rfl)
    (he : backTo pos (starEach [e] X.env) = (false, eval e X.env) :: backTo pos (starEach [] X.env) := by rfl)
    (hplain : (backTo pos (starEach [e] X.env)).any (·.1) = false := by rfl)
    (hall : (backToKw pos (keywordEach kws X.env)).all (·.1.isSome) = true := by rfl)
    (hkw : (backToKw pos (keywordEach kws X.env)).any (·.1.isNone) = false := by rfl) :
    PI X (.Tuple elts kk tpos) (.Call (.Name "enumerate" p) [e] kws pos) (iEnTS X.K ta tk) := by
  refine ⟨fun pins s σ G R I h => ?_⟩
  refine wpAny_Call_Name_kw (ld_blt I hg hm boot_enumerate ?_)
  refine callWith_typeK (thn (ha.run pos pins s σ G _ I h) fun us s1 ⟨vs, G1, I1, r1, q1⟩ => thn (hk.run pos pins s1 σ G1 _ I1 q1) fun ws s2 ⟨zs, G2, I2, r2, q2⟩ => ?_) he hplain hall hkw
  rw [hks]
  obtain ⟨a, xs, c, ex, ez, c0, c1, hq, q⟩ := q2
  subst ex ez
  cases r1 with
  | cons r rr =>
    cases rr
    cases r
    cases r2 with
    | cons t tt =>
      cases tt
      obtain ⟨t0, rfl⟩ := t
      obtain ⟨its, rv, p', hz⟩ := I2.tuple hq
      exact enum_begins_start (begins_tuple a its.toArray) (show s2.heap.IsTuple a its.toArray from p') c0 c1 fun h' he hit hsz hk => wpAny_pyIter_enum he (begun I2 he hit hk q)
end
theorem walk_ity {K : PySem.W.Frag} {a : Addr} {xs : List V} {c : Int} : Walk (Ity K a c) xs.length (fun G => SqT K G a xs) (YPair (fun i => some (.int (c + (i : Nat)))) (fun i => xs[i]?)) := by
  refine ⟨fun i _ hi q => ⟨xs, xs[i], q, by simp [hi]⟩, fun _ q => ⟨xs, q, Nat.le_refl _⟩, fun i G v G' _ q y => ?_⟩
  obtain ⟨t, x, h1, h2, h3, h4⟩ := y
  exact ⟨t, .int (c + (i : Nat)), x, h1, h2, h3, rfl, h4 xs q⟩
section
variable {X : Cx}
/-- sorted(d), its keys ints, any number of them -/
theorem call_sortedDA (hcalm : X.calm = true) : CallR X (.builtin "sorted") (fun xs G Q => ∃ (a : Addr) (kvs : List (Key × V)) (ks : List Int), xs = [.ref a] ∧ Rd G a (.dK kvs) ∧ kvs.map (·.1) = ks.map Sum.inl ∧
    ∀ (ys : List Int) (p : Addr), ys.Perm ks → ys.Pairwise (· ≤ ·) → G p = none → Q (.ref p) (upd G p (.lst (ys.map V.int)))) := by
  intro pins s σ G xs us Q I r q
  obtain ⟨a, kvs, ks, ex, hd, hks, q⟩ := q
  subst ex
  obtain ⟨u, eu, rx⟩ := vals1 r
  subst eu
  cases rx
  obtain ⟨z, lo, vs, rel, dd⟩ := dk_rd I.hok hd
  obtain ⟨ep, hat⟩ := dd.dictAt
  have hkeys : vs.map (·.1) = ks.map Sum.inl := rel.keys.symm.trans hks
  have hl : vs.length = ks.length := by
    have e := congrArg List.length hkeys
    rw [List.length_map, List.length_map] at e
    exact e
  have zv : vs.length ≤ sizeLine := by rw [← rel.length]; exact z
  refine Calls.call_function_entry PyProof.Rows.kind_sorted PyProof.Rows.plain_sorted PyProof.Rows.entry_sorted (PyProof.Rows.args_sorted1 _) ?_
  unfold Builtin.«sorted»
  refine wpAny_bind (m := checkCount "sorted" 1 1 _) (wpAny_pure ?_)
  refine wpAny_bind (PySem.W.kdu_collect (A := X.A.in1) (PySem.W.kdl_dict (knd := mixKind X.prog X.w) (kvs := vs) (ep := ep) lo) (I.ok.hd hcalm) hat zv fun h' tk acc hk hacc => ?_)
  have hal : acc.toList.length = ks.length := by rw [Array.length_toList, hacc.1, hl]
  have hS : IntsAre acc.toList ks := ints_each hal fun j v e => by
    obtain ⟨k, x, e1, e2⟩ := hacc.2 j v (by rw [← Array.getElem?_toList]; exact e)
    have e3 : (vs.map (·.1))[j]? = some k := by rw [List.getElem?_map, e1]; rfl
    rw [hkeys, List.getElem?_map] at e3
    cases e4 : ks[j]? with
    | none => rw [e4] at e3; cases e3
    | some y =>
      rw [e4] at e3
      have e5 : Sum.inl y = k := Option.some.inj e3
      subst e5
      rcases keyIs_shape (show keyIs (Sum.inl y) v = true from e2) with ⟨i, t, ek, ev⟩ | ⟨zz, t, ek, ev⟩
      · cases ek
        exact ⟨y, t, rfl, ev⟩
      · cases ek
  have I1 : Inv X pins σ G { s with heap := h', toks := tk } := I.kept hk
  have hsz : acc.toList.length ≤ sizeLine := by rw [hal, ← hl]; exact zv
  refine wpAny_bind (wpAny_newList ?_ hsz)
  have hoL : (h'.push (seqObj "list" acc.toList.toArray 0)).get? h'.objs.size = some (seqObj "list" acc.toList.toArray 0) := Heap.get?_push_size _ rfl
  show wpAny _ _ _ _ _ { s with heap := h'.push (seqObj "list" acc.toList.toArray 0), toks := tk }
  refine wpAny_bind (wpAny_holding (wpAny_call_entry PyProof.Rows.slot_list_sort ⟨_, hoL, rfl⟩ PyProof.Rows.entry_list_sort
    (SrtO.list_sort_ord (s := { s with heap := h'.push (seqObj "list" acc.toList.toArray 0), toks := tk }) SrtO.swo_int hoL hsz (fun h2 => SrtO.ints_sortable hS h2) fun out g1 g2 => ⟨_, rfl, ?_⟩) (PyProof.Rows.args_list_sort _)))
  obtain ⟨k1, k2, k3⟩ := SrtO.ints_out hS g1 g2
  obtain ⟨e', he'⟩ := PyProof.Rows.sortedHeap_at (vs := acc.toList) (out := out.toArray) hoL
  have hlen : ((out.map SrtO.iv).map V.int).length ≤ sizeLine := by
    rw [List.length_map, k2.length_eq, ← hal]
    exact hsz
  refine wpAny_pure ⟨_, rfl, .ref h'.objs.size, upd G h'.objs.size (.lst ((out.map SrtO.iv).map V.int)), I1.laid (t' := tk) (fun b u e => ?_) (Nat.le_refl _)
    (show ObjOk X.prog X.w _ _ _ (.lst ((out.map SrtO.iv).map V.int)) from ⟨hlen, out, e', vals_of_ints k1, he'⟩), rfl, q _ _ k2 k3 (I1.hok.fresh (Nat.le_refl _))⟩
  have hb : b < h'.objs.size := Heap.lt_size e
  rw [PyProof.Rows.sortedHeap_old (Nat.ne_of_lt hb) (by rw [size_push']; exact Nat.lt_succ_of_lt hb)]
  exact Heap.get?_push_of_some _ e
/-! ### plain tuples, whose objects are known; dict of one -/
def FzT (G : Hp) (a : Addr) (ys : List V) : Prop := ∃ ob : Obj, ob.dict = none ∧ G a = some (.frz ob (.tup ys))
theorem FzT.sq {K : PySem.W.Frag} {G : Hp} {a : Addr} {ys : List V} (h : FzT G a ys) : SqT K G a ys := by
  obtain ⟨ob, _, e⟩ := h
  exact .inl (.inr ⟨ob, e⟩)
/-- tuple(xs), xs a list -/
theorem call_tupleFz : CallR X (.type "tuple") (fun xs G Q => ∃ p ys, xs = [.ref p] ∧ SqL X.K G p ys ∧ ∀ l ob, G l = none → ob.dict = none → Q (.ref l) (upd G l (.frz ob (.tup ys)))) := by
  intro pins s σ G xs us Q I r h
  obtain ⟨p, ys, rfl, hq, q⟩ := h
  obtain ⟨u, rfl, rx⟩ := vals1 r
  cases rx
  obtain ⟨its, r', pl, hz⟩ := I.list hq
  have hlen := r'.length
  refine call_tuple_list pl.isList (fun h' kp => ?_) (by simp only [List.size_toArray] <;> omega)
  have I1 : Inv X pins σ G { s with heap := h' } := I.kept (t' := s.toks) kp
  have I2 : Inv X pins σ (upd G h'.objs.size (.frz { cls := .type "tuple", data := .seq its.toArray } (.tup ys))) { s with heap := h'.push { cls := .type "tuple", data := .seq its.toArray } } :=
    I1.laid (t' := s.toks) (fun b o e => Heap.get?_push_of_some _ e) (Nat.le_refl _) (show ObjOk X.prog X.w _ _ _ (.frz { cls := .type "tuple", data := .seq its.toArray } (.tup ys)) from ⟨Heap.get?_push_size _ rfl, hz, its, r', IsTup.new _ _⟩)
  exact ⟨.ref h'.objs.size, _, I2, rfl, q _ _ (I1.hok.fresh (Nat.le_refl _)) rfl⟩
theorem pairs_both {pins : List (Addr × Obj)} {σ : L2.St} {G : Hp} {s : Shared} (I : Inv X pins σ G s) : ∀ {ps : List Addr} {kvs : List (Key × V)}, Paired (fun p kv => SqT X.K G p [kV kv.1, kv.2]) ps kvs →
    ∃ (prs : List (Key × Value)) (ks : List (Value × Value)), KV kvs prs ∧ prs.length = ps.length ∧ ks.length = ps.length ∧
      ∀ (j : Nat) (k v : Value), ks[j]? = some (k, v) → ∃ (b : Addr) (y : Key), ps[j]? = some b ∧ IsTup s.heap b #[k, v] ∧ prs[j]? = some (y, v) ∧ keyIs y k = true
  | _, _, .nil => ⟨[], [], .nil, rfl, rfl, fun j _ _ e => by simp at e⟩
  | _, _, .cons (a := p) (b := kv) h t => by
    obtain ⟨prs, ks, rr, l1, l2, hp⟩ := pairs_both I t
    obtain ⟨its, rv, ht, _⟩ := I.tuple h
    obtain ⟨u, y, ei, ru, ry⟩ := vals2 rv
    subst ei
    refine ⟨(kv.1, y) :: prs, (u, y) :: ks, .cons ⟨rfl, ry⟩ rr, by rw [List.length_cons, List.length_cons, l1], by rw [List.length_cons, List.length_cons, l2], fun j k v e => ?_⟩
    cases j with
    | zero =>
      have e' : (u, y) = (k, v) := Option.some.inj e
      cases e'
      exact ⟨p, kv.1, rfl, ht, rfl, kV_is (P := X.prog) (w := X.w) ru⟩
    | succ j =>
      obtain ⟨b, z, e1, e2, e3, e4⟩ := hp j k v (by simpa using e)
      exact ⟨b, z, by simpa using e1, e2, by simpa using e3, e4⟩
/-- dict(t), t a plain tuple of pairs -/
theorem call_dictFz (hcalm : X.calm = true) : CallR X (.type "dict") (fun xs G Q => ∃ (a : Addr) (ps : List Addr) (kvs : List (Key × V)), xs = [.ref a] ∧ FzT G a (ps.map V.ref) ∧ Paired (fun p kv => SqT X.K G p [kV kv.1, kv.2]) ps kvs ∧
    ∀ p, G p = none → Q (.ref p) (upd G p (.dK (mergeK [] kvs)))) := by
  intro pins s σ G xs us Q I r q
  obtain ⟨a, ps, kvs, rfl, ⟨ob, od, ha⟩, hp, q⟩ := q
  obtain ⟨u, rfl, rx⟩ := vals1 r
  cases rx
  obtain ⟨hget, hz, its, rv, o2, g1, g2, n, g3⟩ := (show ObjOk X.prog X.w G s.heap a (.frz ob (.tup (ps.map V.ref))) from I.hok a _ ha)
  rw [hget] at g1
  cases g1
  have ei := refs_at rv
  subst ei
  rw [List.length_map] at hz
  obtain ⟨prs, ks, rel, l1, l2, hpr⟩ := pairs_both I hp
  have ok : PlainSeq "tuple" s.heap a (ps.map Value.ref).toArray ∧ PairItems s.heap (ps.map Value.ref).toArray (fun j => ps.getD j 0) ks := by
    refine ⟨⟨ob, n, hget, g2, od, g3⟩, by simp [l2], fun j k v e => ?_⟩
    obtain ⟨b, y, e1, e2, e3, e4⟩ := hpr j k v e
    have eb : ps.getD j 0 = b := by
      rw [List.getD_eq_getElem?_getD, e1]
      rfl
    show _ = some (Value.ref (ps.getD j 0)) ∧ PairAt s.heap (ps.getD j 0) k v
    rw [eb]
    exact ⟨by simp [e1], .inl e2⟩
  refine PySem.call_dict_pairs (knd := mixKind X.prog X.w) (kvs := prs) (PairArg.tuple a _ (fun j => ps.getD j 0) ks) (I.ok.hd hcalm) ok ⟨by rw [l1, l2], fun j k v e => ?_⟩ (by rw [l2]; exact hz) fun h' tk hd' kk => ?_
  · obtain ⟨b, y, e1, e2, e3, e4⟩ := hpr j k v e
    exact ⟨y, e3, e4⟩
  · have hm : (s.heap.objs.size == sysModules) = false := beq_eq_false_iff_ne.mpr (Nat.ne_of_gt I.big)
    have hlen : (mergeK [] kvs).length ≤ sizeLine := by
      refine Nat.le_trans (length_mergeK kvs []) ?_
      rw [List.length_nil, Nat.zero_add, rel.length, l1]
      exact hz
    exact ⟨.ref s.heap.objs.size, upd G s.heap.objs.size (.dK (mergeK [] kvs)), I.laid (t' := tk) (fun b o e => kk b o (fun z => nomatch z) e) (Nat.le_refl _) (show ObjOk X.prog X.w _ _ _ (.dK (mergeK [] kvs)) from ⟨hlen, hm, merged [] prs, KV.merge rel .nil, hd'⟩), rfl, q _ (I.hok.fresh (Nat.le_refl _))⟩
end
end KD
set_option maxRecDepth 100000
set_option maxHeartbeats 4000000
/-! A name set to a dict that is made by a comprehension. -/
namespace KH
open PySem PySem.Spec PyProof.Rows L2
section
variable {X : Cx}
theorem ps_setDc {i : Nat} {y : Str} {py : Pos} {kx vx tg iter : Expr} {ifs : List Expr} {scope : Scope} {own : List (Str × Nat)} {pos spos : Pos} {wi : TI} {g : TG} {tt : TT} {tk tv : TE} (hc : X.calm = true) (hN : X.N.Nodup) (hy : X.N[i]? = some y) (hyl : X.env.scope.names.lookup y = some .local)
    (hsw : swapsWith (.DictComp kx vx [⟨tg, iter, ifs, 0⟩] scope pos) (some (.Name y py)) spos.line X.env = pure true) (hi : PI X tg iter wi) (ok : BlkOk X.N X.env.scope scope own)
    (hg : ∀ (s : Shared) (H : Hp) (C : Addr) (cl : List (Str × Addr)) (fp : List Addr), PG (X.blk s H scope (compEnvC scope cl C X.env) fp) tg g) (ht : ∀ (s : Shared) (H : Hp) (C : Addr) (cl : List (Str × Addr)) (fp : List Addr), PTs (X.blk s H scope (compEnvC scope cl C X.env) fp) ifs tt)
    (hk : ∀ (s : Shared) (H : Hp) (C : Addr) (cl : List (Str × Addr)) (fp : List Addr), PE (X.blk s H scope (compEnvC scope cl C X.env) fp) kx tk)
    (he : ∀ (s : Shared) (H : Hp) (C : Addr) (cl : List (Str × Addr)) (fp : List Addr), PE (X.blk s H scope (compEnvC scope cl C X.env) fp) vx tv) (hs : ∀ x, foldedSetIterable iter X.env x = pure x := by intro _; rfl) :
    PS X (.Assign [.Name y py] (.DictComp kx vx [⟨tg, iter, ifs, 0⟩] scope pos) spos) (tAsg (tDc wi g tt tk tv (own.map (·.2))) (gName i)) := by
  refine ⟨fun pins s σ H D I h => ?_⟩
  rw [exec_Assign_Name_used _ _ _ _ hsw]
  refine wpAny_bind (wpAny_standAt (wpAny_bind ?_))
  show wpAny _ X.A (do let _ ← comprehension (.DictComp kx vx [⟨tg, iter, ifs, 0⟩] scope pos) scope X.env (firstIterPos [⟨tg, iter, ifs, 0⟩] pos) newDict false (eval iter X.env) (some (assign (.Name y py) X.env))) _ _ s
  have h : tDc wi g tt tk tv (own.map (·.2)) σ H (fun x H1 => gName i x σ H1 D.nx) := h
  refine wpAny_bind (thn (dc_core (Qf := fun _ s' => SP X pins D .next s') hc hN I hi ok hg ht hk he hs h fun L C s' m H' I' q hn f => ?_) fun _ s' hq => wpAny_pure (wpAny_pure hq))
  show wpAny _ _ (assign (.Name y py) X.env (.ref L)) _ _ _
  refine wpAny_assign_Name (store_ok2 (v := V.ref L) I' hN hy (.inl hyl) rfl (fun s2 I2 ⟨a, sb, ha⟩ => ?_) (.inr hyl))
  obtain ⟨f0, f1, f2, f3, f4, f5⟩ := f
  have haC : C ≠ a := by
    rcases ha with z | z
    · rw [z]; exact f1
    · exact fun e => f4 y a z e.symm
  refine ⟨m, hn.sameBut sb haC, fun h3 sb3 => ?_⟩
  exact ⟨_, H', I2.turned (t' := s2.toks) (fun b o hb e => (sb3.2 b hb).trans e) f0 f1 f3 f4 f5, q⟩
theorem sw_trueD {kx vx : Expr} {gs : List Comprehension} {scope : Scope} {pos py : Pos} {y : Str} {l : Nat} {env : Env} (hk : env.scope.kind = .function) (hy : env.scope.names.lookup y = some .local) (hl : (py.line == pos.line) = true)
    (ha : (scope.names.any fun (n, k) => n == y && (k == .local || k == .cell)) = false) : swapsWith (.DictComp kx vx gs scope pos) (some (.Name y py)) l env = pure true := by
  have ky : env.kindOf y = some .local := hy
  have hb : env.blockKind = .function := by unfold Env.blockKind; rw [hk]; rfl
  unfold swapsWith
  simp only [hb, ky, ha, Expr.pos, hl]
  rfl
end
end KH
set_option maxRecDepth 100000
set_option maxHeartbeats 4000000
/-! repr of values that may lie in tuples: some text of a bounded length, whatever else is being shown. -/
namespace KR
open PySem PySem.Spec PyProof.Rows L2
section
variable {prog : Program} {w : World}

def Says (prog : Program) (w : World) (hp : Heap) (d n : Nat) (x : Value) : Prop :=
  ∀ (b : Nat) (A : Around) (E : Value → Shared → Prop) (s : Shared) (Q : Str → Shared → Prop), b + n ≤ sizeLine → A.units + d < cLine → s.heap = hp →
    (∀ t tk, t.length ≤ n → Q t { s with toks := tk }) → wpAny (model prog w) A (pyReprUnder b x) Q E s

theorem Says.of_is {hp : Heap} {d n : Nat} {x : Value} {t : Str} (h : ReprIs prog w x t) (hn : t.length ≤ n) : Says prog w hp d n x :=
  fun b A E s Q hb _ _ hq => h b (by omega) A E s Q fun tk => hq t tk hn

theorem fold_says {hp : Heap} {d n : Nat} {A : Around} {E : Value → Shared → Prop} (hu : A.units + d < cLine) :
    ∀ (l : List Value) (acc : Array Str) (m : Nat) (s : Shared) (Q : (Array Str × Nat) → Shared → Prop),
      (∀ x ∈ l, Says prog w hp d n x) → m + l.length * (n + 2) ≤ sizeLine → s.heap = hp →
      (∀ (ts : List Str) (k tk : Nat), ts.length = l.length → (∀ t ∈ ts, t.length ≤ n) → Q ⟨acc ++ ts.toArray, k⟩ { s with toks := tk }) →
      wpAny (model prog w) A (forIn l (⟨acc, m⟩ : (Array Str × Nat)) tupBody) Q E s
  | [], acc, m, s, Q, _, _, _, h => by
    have h0 := h [] m s.toks rfl (fun _ z => nomatch z)
    rw [List.forIn_nil]
    refine wpAny_pure ?_
    simpa using h0
  | x :: l, acc, m, s, Q, hx, hm, hs, h => by
    have hl : (x :: l).length * (n + 2) = l.length * (n + 2) + (n + 2) := by
      rw [List.length_cons, Nat.succ_mul]
    rw [hl] at hm
    rw [List.forIn_cons]
    refine wpAny_bind (wpAny_bind (hx x (List.mem_cons_self ..) (m + 1) A E s _ (by omega) hu hs fun t tk ht => wpAny_pure ?_))
    refine fold_says hu l (acc.push t) (m + (t.length + 2)) { s with toks := tk } Q (fun y hy => hx y (List.mem_cons_of_mem _ hy)) (by omega) hs fun ts k tk' h1 h2 => ?_
    have h3 := h (t :: ts) k tk' (by rw [List.length_cons, List.length_cons, h1]) (fun y hy => by
      rcases List.mem_cons.mp hy with e | e
      · rw [e]
        exact ht
      · exact h2 y e)
    simpa using h3

theorem piled_le {n : Nat} : ∀ ts : List Str, (∀ t ∈ ts, t.length ≤ n) → piled ts ≤ ts.length * (n + 2)
  | [], _ => Nat.zero_le _
  | t :: ts, h => by
    have h1 := piled_le ts fun y hy => h y (List.mem_cons_of_mem _ hy)
    have h2 := h t (List.mem_cons_self ..)
    rw [piled_cons, List.length_cons, Nat.succ_mul]
    omega

theorem rest_says {hp : Heap} {a : Addr} {o : Obj} {items : Array Value} {k d n b : Nat} {A : Around} {E : Value → Shared → Prop} {s : Shared} {Q : Fin → Shared → Prop}
    (ha : hp.get? a = some o) (hd : o.data = .seq items k) (hx : ∀ x ∈ items.toList, Says prog w hp d n x) (hu : A.units + d < cLine) (hs : s.heap = hp)
    (hb : b + items.size * (n + 2) + 2 ≤ sizeLine) (h : ∀ t u tk, t.length ≤ items.size * (n + 2) + 2 → Q (.done (.ret (.str t u))) { s with toks := tk }) :
    wpAny (model prog w) A (tupleReprRest b (.ref a)) Q E s := by
  have he : items.toList.length = items.size := by simp
  unfold tupleReprRest Builtin.Tuple.tupleItemsOf
  refine wpAny_bind (wpAny_bind (wpAny_seqItems (by rw [hs]; exact ha) hd (wpAny_pure ?_)))
  rw [← Array.forIn_toList]
  refine wpAny_bind (fold_says hu _ _ _ _ _ hx (by rw [he]; omega) hs fun ts m tk h1 h2 => ?_)
  have hp1 := piled_le ts h2
  have hp2 := fmt_text ts
  rw [he] at h1
  rw [h1] at hp1
  have hT : (tupleText ts).length ≤ items.size * (n + 2) + 2 := by omega
  refine wpAny_bind (wpAny_mkStr (wpAny_pure ?_) (by
    have hz : (tupleText ts).length ≤ sizeLine := by omega
    simpa [tupleText, h1] using hz))
  have h3 := h (tupleText ts) tk (tk + 1) hT
  simpa [tupleText, h1] using h3

/-- tuple.__repr__ and its twin: the own text, or "(...)" -/
theorem body_says {hp : Heap} {a : Addr} {o : Obj} {items : Array Value} {k d n b : Nat} {A : Around} {E : Value → Shared → Prop} {s : Shared} {Q : Fin → Shared → Prop}
    (ha : hp.get? a = some o) (hd : o.data = .seq items k) (hx : ∀ x ∈ items.toList, Says prog w hp d n x) (hu : A.units + d < cLine) (hs : s.heap = hp)
    (hb : b + items.size * (n + 2) + 7 ≤ sizeLine) (h : ∀ t u tk, t.length ≤ items.size * (n + 2) + 7 → Q (.done (.ret (.str t u))) { s with toks := tk }) :
    wpAny (model prog w) A (Builtin.tupleReprAt b ⟨[.ref a], []⟩) Q E s := by
  rw [tuple_repr_tree]
  refine wpAny_bind (fmt_underWay fun c => ?_)
  cases c with
  | true =>
    refine PySem.W.KFB.if_so rfl (wpAny_bind (wpAny_rule ?_))
    refine wpAny_bind (wpAny_mkStr (wpAny_pure ?_) (by decide +kernel))
    exact h "(...)" _ _ (Nat.le_trans fmt_way (by omega))
  | false =>
    refine PySem.W.KFB.if_not rfl ?_
    exact rest_says ha hd hx hu hs (by omega) fun t u tk ht => h t u tk (by omega)

theorem Says.tuple {hp : Heap} {a : Addr} {o : Obj} {items : Array Value} {k d n : Nat} (ha : hp.get? a = some o) (hc : o.cls = .type "tuple") (hd : o.data = .seq items k)
    (hx : ∀ x ∈ items.toList, Says prog w hp d n x) : Says prog w hp (d + 1) (items.size * (n + 2) + 7) (.ref a) := by
  intro b A E s Q hb hu hs hq
  have hT : s.TypeIs (.ref a) "tuple" := ⟨o, by rw [hs]; exact ha, hc⟩
  refine wpAny_pyReprUnder_ref (by omega) ?_
  refine wpAny_pyReprObjUnder_twin (twin := "tuple.__repr__.under") hT F.slot_tuple_repr rfl (by omega) ?_
  refine call_twin_own (F.quiet_tuple_repr_under _) F.entry_tuple_repr_under F.check_tuple_repr_under hT F.slot_tuple_repr (F.args_tuple_repr_1 _) (wpOwn_of_wpAny ?_)
  exact body_says ha hd hx (by rw [units_under_tuple_repr_under]; omega) hs (by omega) fun t u tk ht => ⟨⟨t, u, rfl⟩, t, u, rfl, hq t tk ht⟩

/-- repr(x), x a tuple -/
theorem repr_tuple {hp : Heap} {a : Addr} {o : Obj} {items : Array Value} {k d n : Nat} {A : Around} {E : Value → Shared → Prop} {s : Shared} {Q : Value → Shared → Prop} (ha : hp.get? a = some o) (hc : o.cls = .type "tuple") (hd : o.data = .seq items k)
    (hx : ∀ x ∈ items.toList, Says prog w hp d n x) (hu : A.units + d + 2 < cLine) (hs : s.heap = hp) (hb : items.size * (n + 2) + 7 ≤ sizeLine)
    (hq : ∀ t u tk, t.length ≤ items.size * (n + 2) + 7 → Q (.str t u) { s with toks := tk }) : wpAny (model prog w) A (call (.builtin "repr") [.ref a]) Q E s := by
  have hT : s.TypeIs (.ref a) "tuple" := ⟨o, by rw [hs]; exact ha, hc⟩
  refine call_repr_slot (by omega) hT F.slot_tuple_repr ?_
  refine wpAny_call (codeAny_call_builtin_own (Code.quiet_builtin _ (by decide +kernel)) F.entry_tuple_repr (F.slot_tuple_repr.check _ _ _ _ _ _ _ _ hT (F.args_tuple_repr_1 _) (wpOwn_of_wpAny ?_)))
  exact body_says ha hd hx (by rw [units_under_tuple_repr]; show A.units + 1 + 1 + d < cLine; omega) hs (by omega) fun t u tk ht => ⟨t, u, rfl, hq t u tk ht⟩
end
end KR
set_option maxRecDepth 100000
set_option maxHeartbeats 4000000
/-! repr of data, rows of up to forty parts. -/
namespace KQ
open PySem PySem.Spec PyProof.Rows L2
/-! ### repr(v) of data -/
/-- what repr may be asked of: depth at most n, ints and texts of a bounded size, at most 64 parts a tuple -/
def Rp : Nat → PyData → Prop
  | _, .none => True
  | _, .bool _ => True
  | _, .int i => i.natAbs.log2 < 100
  | _, .str x => (reprText x).length ≤ 200
  | n + 1, .tuple ds => ds.length ≤ 40 ∧ ∀ d ∈ ds, Rp n d
  | _, _ => False
def rpN : Nat → Nat
  | 0 => 200
  | n + 1 => 40 * (rpN n + 2) + 200
theorem rpN_ge : ∀ n, 200 ≤ rpN n
  | 0 => Nat.le_refl _
  | n + 1 => by unfold rpN; omega
section
variable {X : Cx} {pins : List (Addr × Obj)} {σ : L2.St} {H : Hp} {s : Shared}
theorem int_says {i : Int} (h : i.natAbs.log2 < 100) : (Str.ofString (toString i)).length ≤ 200 := by
  have e := int_text_length_le (k := 100) (by decide) h
  rw [PySem.ofString_length]
  omega
theorem Says.mono {prog : Program} {w : World} {hp : Heap} {d d' n n' : Nat} {x : Value} (h : KR.Says prog w hp d n x) (hd : d ≤ d') (hn : n ≤ n') : KR.Says prog w hp d' n' x :=
  fun b A E s Q hb hu hs hq => h b A E s Q (by omega) (by omega) hs fun t tk ht => hq t tk (by omega)
theorem says_of (I : Inv X pins σ H s) : ∀ (n : Nat) (d : PyData) (v : V) (u : Value), Rp n d → Dp X.K H v d → RelV v u → KR.Says X.prog X.w s.heap n (rpN n) u
  | n, .none, _, _, _, h, r => by
    cases h
    cases r
    exact KR.Says.of_is ReprIs.none (Nat.le_trans (by decide +kernel) (rpN_ge n))
  | n, .bool b, _, _, _, h, r => by
    cases h
    cases r
    refine KR.Says.of_is (ReprIs.bool b) (Nat.le_trans ?_ (rpN_ge n))
    cases b <;> decide +kernel
  | n, .int i, _, _, hi, h, r => by
    cases h
    obtain ⟨t, rfl⟩ := r
    have hi2 : i.natAbs.log2 < 100 := by
      cases n <;> exact hi
    exact KR.Says.of_is (ReprIs.int t (by omega)) (Nat.le_trans (int_says hi2) (rpN_ge n))
  | n, .str x, _, _, hx, h, r => by
    cases h
    obtain ⟨t, rfl⟩ := r
    have hx2 : (reprText x).length ≤ 200 := by
      cases n <;> exact hx
    exact KR.Says.of_is (ReprIs.str x t (Nat.le_trans hx2 (by decide))) (Nat.le_trans hx2 (rpN_ge n))
  | 0, .tuple ds, _, _, hz, _, _ => hz.elim
  | n, .list ds, _, _, hz, _, _ => by cases n <;> exact hz.elim
  | n, .dict ds, _, _, hz, _, _ => by cases n <;> exact hz.elim
  | n + 1, .tuple ds, _, _, hz, h, r => by
    cases h with
    | @tup a xs _ hq ha =>
      cases r
      obtain ⟨its, rv, ⟨o, ho, hcl, m, hd⟩, _⟩ := I.tuple hq
      have hlen : its.length = ds.length := by
        have e1 := rv.length
        have e2 : ∀ {vs : List V} {es : List PyData}, DpAll X.K H vs es → vs.length = es.length := by
          intro vs es z
          induction vs generalizing es with
          | nil => cases z; rfl
          | cons v vs ih =>
            cases z with
            | cons _ z2 => rw [List.length_cons, List.length_cons, ih z2]
        rw [← e1, e2 ha]
      have all : ∀ {vs : List V} {us : List Value} {es : List PyData}, Vals vs us → DpAll X.K H vs es → (∀ d ∈ es, Rp n d) → ∀ u ∈ us, KR.Says X.prog X.w s.heap n (rpN n) u := by
        intro vs us es rr
        induction rr generalizing es with
        | nil => intro _ _ u hu; cases hu
        | cons r1 r2 ih =>
          intro z hrp u hu
          cases z with
          | cons z1 z2 =>
            rcases List.mem_cons.mp hu with e | e
            · rw [e]
              exact says_of I n _ _ _ (hrp _ (List.mem_cons_self ..)) z1 r1
            · exact ih z2 (fun d hd => hrp d (List.mem_cons_of_mem _ hd)) u e
      have hS := KR.Says.tuple (k := m) (n := rpN n) (d := n) ho hcl hd (fun x hx => all rv ha hz.2 x (by simpa using hx))
      refine Says.mono hS (Nat.le_refl _) ?_
      have e3 : its.toArray.size = ds.length := by simpa using hlen
      rw [e3]
      have e4 : ds.length * (rpN n + 2) ≤ 40 * (rpN n + 2) := Nat.mul_le_mul_right _ hz.1
      show _ ≤ 40 * (rpN n + 2) + 200
      omega
theorem call_reprD (n : Nat) (hn : rpN n ≤ 14000000) (hu : X.A.units + n + 8 < cLine) :
    CallR X (.builtin "repr") (fun xs H Q => ∃ v d, xs = [v] ∧ Dp X.K H v d ∧ Rp n d ∧ ∀ t : Str, t.length ≤ 14000000 → Q (.str t) H) := by
  intro pins s σ H xs us Q I r h
  obtain ⟨v, d, rfl, hd, hr, q⟩ := h
  obtain ⟨u, rfl, ru⟩ := vals1 r
  have hz : ∀ {t : Str} {tk u : Nat}, t.length ≤ 14000000 → EP X pins σ Q (.str t u) { s with toks := tk } := fun {t tk u} ht => ⟨.str t, H, I.tok _, ⟨_, rfl⟩, q t ht⟩
  have g0 := rpN_ge n
  cases d with
  | none =>
    cases hd
    cases ru
    exact PySem.P.repr_of_none (hz (by decide +kernel))
  | bool b =>
    cases hd
    cases ru
    refine PySem.P.repr_of_bool (hz ?_)
    cases b <;> decide +kernel
  | int i =>
    cases hd
    obtain ⟨t, rfl⟩ := ru
    have hi2 : i.natAbs.log2 < 100 := by
      cases n <;> exact hr
    exact PySem.P.repr_of_int (by omega) (hz (Nat.le_trans (int_says hi2) (by decide)))
  | str x =>
    cases hd
    obtain ⟨t, rfl⟩ := ru
    have hx2 : (reprText x).length ≤ 200 := by
      cases n <;> exact hr
    exact PySem.P.repr_of_str (hz (Nat.le_trans hx2 (by decide))) (Nat.le_trans hx2 (by decide))
  | tuple ds =>
    cases n with
    | zero => exact hr.elim
    | succ n =>
      cases hd with
      | @tup a xs _ hq ha =>
        cases ru
        obtain ⟨its, rv, ⟨o, ho, hcl, m, hdd⟩, _⟩ := I.tuple hq
        have all : ∀ {vs : List V} {us : List Value} {es : List PyData}, Vals vs us → DpAll X.K H vs es → (∀ d ∈ es, Rp n d) → us.length = es.length ∧ ∀ u ∈ us, KR.Says X.prog X.w s.heap n (rpN n) u := by
          intro vs us es rr
          induction rr generalizing es with
          | nil => intro z _; cases z; exact ⟨rfl, fun u hu => by cases hu⟩
          | cons r1 r2 ih =>
            intro z hrp
            cases z with
            | cons z1 z2 =>
              obtain ⟨e1, e2⟩ := ih z2 (fun d hd => hrp d (List.mem_cons_of_mem _ hd))
              refine ⟨by rw [List.length_cons, List.length_cons, e1], fun u hu => ?_⟩
              rcases List.mem_cons.mp hu with e | e
              · rw [e]
                exact says_of I n _ _ _ (hrp _ (List.mem_cons_self ..)) z1 r1
              · exact e2 u e
        obtain ⟨e1, e2⟩ := all rv ha hr.2
        have e3 : its.toArray.size = ds.length := by simpa using e1
        have e4 : ds.length * (rpN n + 2) ≤ 40 * (rpN n + 2) := Nat.mul_le_mul_right _ hr.1
        have e5 : rpN (n + 1) = 40 * (rpN n + 2) + 200 := rfl
        have e6 : (14000000 : Nat) ≤ sizeLine := by decide
        refine KR.repr_tuple (k := m) (n := rpN n) (d := n) ho hcl hdd (fun x hx => e2 x (by simpa using hx)) (by omega) rfl (by rw [e3]; omega) fun t u tk ht => hz ?_
        rw [e3] at ht
        omega
  | list ds => cases n <;> exact hr.elim
  | dict kvs => cases n <;> exact hr.elim
end

def RpE (d : PyData) : Prop := ∃ n, n ≤ 3 ∧ Rp n d
section
variable {X : Cx}
theorem rpN3 : ∀ {n : Nat}, n ≤ 3 → rpN n ≤ 14000000
  | 0, _ => by decide
  | 1, _ => by decide
  | 2, _ => by decide
  | 3, _ => by decide
  | n + 4, h => absurd h (by omega)
theorem call_reprE (hu : X.A.units + 11 < cLine) : CallR X (.builtin "repr") (fun xs H Q => ∃ n v d, n ≤ 3 ∧ xs = [v] ∧ Dp X.K H v d ∧ Rp n d ∧ ∀ t : Str, t.length ≤ 14000000 → Q (.str t) H) := by
  intro pins s σ H xs us Q I r h
  obtain ⟨n, v, d, hn, e, hd, hr, q⟩ := h
  exact call_reprD n (rpN3 hn) (by omega) pins s σ H xs us Q I r ⟨v, d, e, hd, hr, q⟩
end
end KQ
set_option maxRecDepth 100000
set_option maxHeartbeats 0
namespace K51
open PySem PySem.Spec PyProof.Rows L2
def top (i : Nat) : Stmt := PySem.Challenge.pw_latepresses_k51_whole_bags_by_a_list.main.body.getD i (.Pass ⟨0, 0, 0, 0⟩)
abbrev s_is_whole : Stmt := top 9
abbrev s_is_between : Stmt := top 10
abbrev s_ascends : Stmt := top 11
abbrev s_is_press : Stmt := top 13
abbrev s_is_known : Stmt := top 15
abbrev s_is_made : Stmt := top 16
abbrev s_is_tick : Stmt := top 17
abbrev s_is_letter : Stmt := top 24
abbrev s_is_from_0 : Stmt := top 25
abbrev s_need_letter : Stmt := top 26
abbrev s_letter : Stmt := top 27
abbrev s_letter_of : Stmt := top 28
abbrev s_put : Stmt := top 29
abbrev s_taken : Stmt := top 30
abbrev s_doubled : Stmt := top 31
abbrev s_need_place : Stmt := top 32
abbrev s_size_in_bits : Stmt := top 33
abbrev s_law_deck : Stmt := top 35
abbrev s_law_draw : Stmt := top 36
abbrev s_law_same : Stmt := top 37
abbrev s_law_letter : Stmt := top 38
abbrev s_law_no_letter : Stmt := top 39
abbrev s_law_refused : Stmt := top 40
abbrev s_law_done : Stmt := top 41
abbrev s_law_due : Stmt := top 42
abbrev s_law_bag_right : Stmt := top 43
abbrev s_law_letters_right : Stmt := top 44
abbrev s_law : Stmt := top 45
abbrev s_GameError_init : Stmt := inClass (top 1) 0
abbrev FnQ (K : PySem.W.Frag) (x q : Str) (st : Stmt) (f : Addr) (fd : FuncData) : Prop := FunD K x q (defArgs st) (defBody st) (defScope st) [] [] f fd
def fdAt (K : PySem.W.Frag) (a : Addr) : FuncData := match K.lookup a with
  | some ⟨_, _, .func fd, _⟩ => fd
  | _ => PySem.W.fnOf "" "" (defArgs (top 0)) [] (defScope (top 0)) .none .none .none .none none .none .none
theorem fdAt_eq {K : PySem.W.Frag} {a : Addr} {x q : Str} {st : Stmt} {fd : FuncData} (F : FnQ K x q st a fd) : FnQ K x q st a (fdAt K a) := by
  obtain ⟨oc, od, dV, kV, doc, pm, an, cdv, ct, osl, e, lk, r⟩ := F.ex
  have h : fdAt K a = fd := by
    unfold fdAt
    rw [lk]
  rw [h]
  exact F
def d_is_whole : He.DefD := ⟨("is_whole", none), "is_whole", "is_whole", defArgs s_is_whole, defBody s_is_whole, defScope s_is_whole, [], []⟩
def d_is_between : He.DefD := ⟨("is_between", none), "is_between", "is_between", defArgs s_is_between, defBody s_is_between, defScope s_is_between, [], []⟩
def d_ascends : He.DefD := ⟨("ascends", none), "ascends", "ascends", defArgs s_ascends, defBody s_ascends, defScope s_ascends, [], []⟩
def d_is_press : He.DefD := ⟨("is_press", none), "is_press", "is_press", defArgs s_is_press, defBody s_is_press, defScope s_is_press, [], []⟩
def d_is_known : He.DefD := ⟨("is_known", none), "is_known", "is_known", defArgs s_is_known, defBody s_is_known, defScope s_is_known, [], []⟩
def d_is_made : He.DefD := ⟨("_is_made", none), "_is_made", "_is_made", defArgs s_is_made, defBody s_is_made, defScope s_is_made, [], []⟩
def d_is_tick : He.DefD := ⟨("_is_tick", none), "_is_tick", "_is_tick", defArgs s_is_tick, defBody s_is_tick, defScope s_is_tick, [], []⟩
def d_is_letter : He.DefD := ⟨("is_letter", none), "is_letter", "is_letter", defArgs s_is_letter, defBody s_is_letter, defScope s_is_letter, [], []⟩
def d_is_from_0 : He.DefD := ⟨("_is_from_0", none), "_is_from_0", "_is_from_0", defArgs s_is_from_0, defBody s_is_from_0, defScope s_is_from_0, [], []⟩
def d_need_letter : He.DefD := ⟨("_need_letter", none), "_need_letter", "_need_letter", defArgs s_need_letter, defBody s_need_letter, defScope s_need_letter, [], []⟩
def d_letter : He.DefD := ⟨("letter", none), "letter", "letter", defArgs s_letter, defBody s_letter, defScope s_letter, [], []⟩
def d_letter_of : He.DefD := ⟨("letter_of", none), "letter_of", "letter_of", defArgs s_letter_of, defBody s_letter_of, defScope s_letter_of, [], []⟩
def d_put : He.DefD := ⟨("put", none), "put", "put", defArgs s_put, defBody s_put, defScope s_put, [], []⟩
def d_taken : He.DefD := ⟨("taken", none), "taken", "taken", defArgs s_taken, defBody s_taken, defScope s_taken, [], []⟩
def d_doubled : He.DefD := ⟨("doubled", none), "doubled", "doubled", defArgs s_doubled, defBody s_doubled, defScope s_doubled, [], []⟩
def d_need_place : He.DefD := ⟨("_need_place", none), "_need_place", "_need_place", defArgs s_need_place, defBody s_need_place, defScope s_need_place, [], []⟩
def d_size_in_bits : He.DefD := ⟨("size_in_bits", none), "size_in_bits", "size_in_bits", defArgs s_size_in_bits, defBody s_size_in_bits, defScope s_size_in_bits, [], []⟩
def d_law_deck : He.DefD := ⟨("_law_deck", none), "_law_deck", "_law_deck", defArgs s_law_deck, defBody s_law_deck, defScope s_law_deck, [], []⟩
def d_law_draw : He.DefD := ⟨("_law_draw", none), "_law_draw", "_law_draw", defArgs s_law_draw, defBody s_law_draw, defScope s_law_draw, [], []⟩
def d_law_same : He.DefD := ⟨("_law_same", none), "_law_same", "_law_same", defArgs s_law_same, defBody s_law_same, defScope s_law_same, [], []⟩
def d_law_letter : He.DefD := ⟨("_law_letter", none), "_law_letter", "_law_letter", defArgs s_law_letter, defBody s_law_letter, defScope s_law_letter, [], []⟩
def d_law_no_letter : He.DefD := ⟨("_law_no_letter", none), "_law_no_letter", "_law_no_letter", defArgs s_law_no_letter, defBody s_law_no_letter, defScope s_law_no_letter, [], []⟩
def d_law_refused : He.DefD := ⟨("_law_refused", none), "_law_refused", "_law_refused", defArgs s_law_refused, defBody s_law_refused, defScope s_law_refused, [], []⟩
def d_law_done : He.DefD := ⟨("_law_done", none), "_law_done", "_law_done", defArgs s_law_done, defBody s_law_done, defScope s_law_done, [], []⟩
def d_law_due : He.DefD := ⟨("_law_due", none), "_law_due", "_law_due", defArgs s_law_due, defBody s_law_due, defScope s_law_due, [], []⟩
def d_law_bag_right : He.DefD := ⟨("_law_bag_right", none), "_law_bag_right", "_law_bag_right", defArgs s_law_bag_right, defBody s_law_bag_right, defScope s_law_bag_right, [], []⟩
def d_law_letters_right : He.DefD := ⟨("_law_letters_right", none), "_law_letters_right", "_law_letters_right", defArgs s_law_letters_right, defBody s_law_letters_right, defScope s_law_letters_right, [], []⟩
def d_law : He.DefD := ⟨("law", none), "law", "law", defArgs s_law, defBody s_law, defScope s_law, [], []⟩
def d_GameError_init : He.DefD := ⟨("GameError", some "__init__"), "__init__", "GameError.__init__", defArgs s_GameError_init, defBody s_GameError_init, defScope s_GameError_init, [], []⟩
def loose0 : List Str := ["is_whole", "is_between", "ascends", "is_press", "is_known", "_is_made", "_is_tick", "is_letter", "_is_from_0", "_need_letter", "letter", "letter_of", "put", "taken", "doubled", "_need_place", "size_in_bits", "_law_deck", "_law_draw", "_law_same", "_law_letter", "_law_no_letter", "_law_refused", "_law_done", "_law_due", "_law_bag_right", "_law_letters_right", "GameError", "InvalidKnown", "InvalidTick"]
def loose1 : List Str := ["InvalidHouse", "InvalidLetter", "InvalidPlace", "MOST_PRESS", "MOST_PRESSES", "BITS_OF_HOUSE", "BITS_OF_TICK", "BITS_OF_PRESS", "BITS_OF_LENGTH"]
def loose : List Str := loose0 ++ loose1
def fn : List He.DefD := [d_is_whole, d_is_between, d_ascends, d_is_press, d_is_known, d_is_made, d_is_tick, d_is_letter, d_is_from_0, d_need_letter, d_letter, d_letter_of, d_put, d_taken, d_doubled, d_need_place, d_size_in_bits, d_law_deck, d_law_draw, d_law_same, d_law_letter, d_law_no_letter, d_law_refused, d_law_done, d_law_due, d_law_bag_right, d_law_letters_right, d_law, d_GameError_init]
def fa : List He.Fa := [.glo "is_whole", .glo "is_between", .glo "ascends", .glo "is_press", .glo "is_known", .glo "_is_made", .glo "_is_tick", .glo "is_letter", .glo "_is_from_0", .glo "_need_letter", .glo "letter", .glo "letter_of", .glo "put", .glo "taken", .glo "doubled", .glo "_need_place", .glo "size_in_bits", .glo "_law_deck", .glo "_law_draw", .glo "_law_same", .glo "_law_letter", .glo "_law_no_letter", .glo "_law_refused", .glo "_law_done", .glo "_law_due", .glo "_law_bag_right", .glo "_law_letters_right", .glo "law", .free "len", .free "int", .free "isinstance", .free "range", .free "all", .free "min", .free "max", .free "bool", .free "tuple", .free "list", .free "zip", .free "ValueError", .free "repr", .free "abs", .int "MOST_PRESS" 63, .int "MOST_PRESSES" 32, .int "BITS_OF_HOUSE" 8, .int "BITS_OF_TICK" 16, .int "BITS_OF_PRESS" 6, .int "BITS_OF_LENGTH" 6, .glo "GameError", .glo "InvalidKnown", .glo "InvalidTick", .glo "InvalidHouse", .glo "InvalidLetter", .glo "InvalidPlace"]
def tupA (K : PySem.W.Frag) (a : Addr) (vs : List He.Dv) : Bool := match K.lookup a with
  | some ⟨.type c, _, .seq its _, _⟩ => decide (c = "tuple") && (decide (its.size ≤ sizeLine) && He.relAll (vs.map (He.Dv.v K)) its.toList)
  | _ => false
theorem tupA_ok {K : PySem.W.Frag} {a : Addr} {vs : List He.Dv} (h : tupA K a vs = true) (H : Hp) : SqT K H a (vs.map (He.Dv.v K)) := by
  unfold tupA at h
  split at h
  · rename_i c dd its n sl q
    obtain ⟨h1, h2⟩ := He.ba h
    obtain ⟨h3, h4⟩ := He.ba h2
    exact .inr ⟨_, its, n, q, congrArg Value.type (of_decide_eq_true h1), rfl, of_decide_eq_true h3, He.relAll_ok h4⟩
  · cases h
/-- where a written dict's value lies -/
def dtA (K : PySem.W.Frag) (x k : Str) : Addr := match PySem.W.nsIn K (He.ga K x) k with
  | some (some (.ref a)) => a
  | _ => 0
def dtB (K : PySem.W.Frag) (x : Str) (q : Str × List He.Dv) : Bool := decide (PySem.W.nsIn K (He.ga K x) q.1 = some (some (.ref (dtA K x q.1)))) && tupA K (dtA K x q.1) q.2
def tabs : List He.Tab := []
/-- the class object over ValueError -/
def okC (K : PySem.W.Frag) (C : Addr) : Bool := match K.lookup C with
  | some ⟨.type "type", _, .cls cd, sl⟩ => (match cd.mro, sl.toList with
    | .ref C' :: bm, [_, _, _, _, some (.builtin n), _] => decide (C' = C) && (decide (n = "ValueError.__new__") && (!cd.hasDel && (cd.hasDict && PySem.HandSPX.refsVE bm)))
    | _, _ => false)
  | _ => false
theorem okC_ok {K : PySem.W.Frag} {C : Addr} (h : okC K C = true) :
    ∃ nm q N bs bm sn sub ab col dd k0 k1 k2 k3 k5, K.lookup C = some (excClassObj nm q C N bs bm true sn sub ab col dd k0 k1 k2 k3 k5 "ValueError.__new__") ∧ PySem.HandSPX.refsVE bm = true := by
  unfold okC at h
  split at h
  · rename_i dv cd sl ho
    split at h
    · rename_i C' bm k0 k1 k2 k3 n k5 hm hs
      simp only [Bool.and_eq_true, decide_eq_true_eq, Bool.not_eq_true'] at h
      obtain ⟨h1, h2, h3, h4, h5⟩ := h
      subst h1 h2
      obtain ⟨nm, bs, mro, ns, qn, hd, sn, sub, ab, col, del⟩ := cd
      dsimp only at hm h3 h4
      subst hm h3 h4
      have hsl : sl = #[k0, k1, k2, k3, some (.builtin "ValueError.__new__"), k5] := by
        obtain ⟨l⟩ := sl
        simp only at hs
        rw [hs]
      subst hsl
      exact ⟨nm, qn, ns, bs, bm, sn, sub, ab, col, dv, k0, k1, k2, k3, k5, ho, h5⟩
    · cases h
  · cases h
def iAd (K : PySem.W.Frag) : Addr := He.fAd K ("GameError", some "__init__")
def eqV (a b : Option (Option Value)) : Bool := decide (a = b)
def eqB (a b : Option Bool) : Bool := decide (a = b)
/-- all that is asked of one class -/
def exC (K : PySem.W.Frag) (C : Addr) : Bool :=
  okC K C && (eqV (PySem.W.findIn K (.ref C) "__setattr__") (some (some (.builtin "object.__setattr__"))) && (eqB (PySem.W.subIn K (.ref C) (.type "BaseException")) (some true) && (decide (PySem.W.typeIn K (.ref C) = some (.type "type")) &&
  (PySem.W.keepIn K (.ref C) && (eqV (PySem.W.findIn K (.ref C) "__init__") (some (some (.ref (iAd K)))) && (eqV (PySem.W.findIn K (.ref C) "value") (some none) &&
  (eqV (PySem.W.findIn K (.ref C) "__getattribute__") (some (some (.builtin "BaseException.__getattribute__"))) && (eqV (PySem.W.findIn K (.ref C) "__getattr__") (some none) && (PySem.W.hasDictIn K C &&
  (eqV (PySem.W.findIn K (.ref C) "__class__") (some (some (.builtin "object.__class__"))) && (eqB (PySem.W.mroIn K C (.type "object")) (some true) && (eqB (PySem.W.exmOne K (.ref C) (.ref (He.ga K "GameError"))) (some true) &&
  eqB (PySem.W.kitOne K (.ref C) (.type "ValueError")) (some true)))))))))))))
def exG (K : PySem.W.Frag) : Bool :=
  eqV (PySem.W.specialIn K (.builtin "object.__class__") "__get__") (some (some (.builtin "getset_descriptor.__get__"))) && (eqB (PySem.W.takesIn K (.builtin "object.__class__")) (some true) &&
  (decide (PySem.W.typeIn K (.ref (iAd K)) = some (.type "function")) && (match PySem.W.findCls K (.type "ValueError") (.type "type") "__init__" with
    | some (.val (.builtin s)) => decide (s = "ValueError.__init__")
    | _ => false)))
def cs : List Str := ["InvalidLetter", "InvalidHouse", "InvalidKnown", "InvalidTick", "InvalidPlace"]
def exAll (K : PySem.W.Frag) : Bool := exG K && (cs.all (fun x => exC K (He.ga K x)) &&
  cs.all fun x => cs.all fun y => eqB (PySem.W.kitOne K (.ref (He.ga K x)) (.ref (He.ga K y))) (some (decide (x = y))))
def exs (K : PySem.W.Frag) : Bool := exAll K && (true)
abbrev R : PySem.W.OpenRow := PySem.W.OpenLaw.row PySem.Challenge.rw_latepresses_k51_whole_bags_by_a_list
abbrev hk : PySem.W.Hook := He.hookX 6 fa fn tabs [] exs
def ob (s : PySem.W.SharedT) : He.AlX := He.obsX 6 fa fn tabs [] exs (HandSHeadRun.getT s)
theorem ob_eq (s : PySem.W.SharedT) : ob s = hk.obs s.abs := He.obsX_eq (HandSHeadRun.getT_eq s)
theorem run0 (w : World) : HandSHeadRun.RunEq R (PySem.W.view R.prog [45]) hk ob 20000 loose (w.withFollow "special-get-raises" false) := by
  intro os
  kernel_rfl
theorem run1 (w : World) : HandSHeadRun.RunEq R (PySem.W.view R.prog [45]) hk ob 20000 loose (w.withFollow "special-get-raises" true) := by
  intro os
  kernel_rfl
theorem run (w : World) : HandSHeadRun.RunEq R (PySem.W.view R.prog [45]) hk ob 20000 loose w :=
  PySem.W.byRow2 "special-get-raises" (P := fun w => HandSHeadRun.RunEq R (PySem.W.view R.prog [45]) hk ob 20000 loose w) run0 run1 w
structure Txt (K : PySem.W.Frag) (w : World) (mg : Str → Option Value) : Prop where
  F_is_whole : FnQ K "is_whole" "is_whole" s_is_whole (He.fAd K ("is_whole", none)) (fdAt K (He.fAd K ("is_whole", none)))
  b_is_whole : Binds K (fdAt K (He.fAd K ("is_whole", none))) ["told"] []
  F_is_between : FnQ K "is_between" "is_between" s_is_between (He.fAd K ("is_between", none)) (fdAt K (He.fAd K ("is_between", none)))
  b_is_between : Binds K (fdAt K (He.fAd K ("is_between", none))) ["told", "low", "high"] []
  F_ascends : FnQ K "ascends" "ascends" s_ascends (He.fAd K ("ascends", none)) (fdAt K (He.fAd K ("ascends", none)))
  b_ascends : Binds K (fdAt K (He.fAd K ("ascends", none))) ["row"] []
  F_is_press : FnQ K "is_press" "is_press" s_is_press (He.fAd K ("is_press", none)) (fdAt K (He.fAd K ("is_press", none)))
  b_is_press : Binds K (fdAt K (He.fAd K ("is_press", none))) ["told"] []
  F_is_known : FnQ K "is_known" "is_known" s_is_known (He.fAd K ("is_known", none)) (fdAt K (He.fAd K ("is_known", none)))
  b_is_known : Binds K (fdAt K (He.fAd K ("is_known", none))) ["told"] []
  F_is_made : FnQ K "_is_made" "_is_made" s_is_made (He.fAd K ("_is_made", none)) (fdAt K (He.fAd K ("_is_made", none)))
  b_is_made : Binds K (fdAt K (He.fAd K ("_is_made", none))) ["made", "ends"] []
  F_is_tick : FnQ K "_is_tick" "_is_tick" s_is_tick (He.fAd K ("_is_tick", none)) (fdAt K (He.fAd K ("_is_tick", none)))
  b_is_tick : Binds K (fdAt K (He.fAd K ("_is_tick", none))) ["told"] []
  F_is_letter : FnQ K "is_letter" "is_letter" s_is_letter (He.fAd K ("is_letter", none)) (fdAt K (He.fAd K ("is_letter", none)))
  b_is_letter : Binds K (fdAt K (He.fAd K ("is_letter", none))) ["told"] []
  F_is_from_0 : FnQ K "_is_from_0" "_is_from_0" s_is_from_0 (He.fAd K ("_is_from_0", none)) (fdAt K (He.fAd K ("_is_from_0", none)))
  b_is_from_0 : Binds K (fdAt K (He.fAd K ("_is_from_0", none))) ["told"] []
  F_need_letter : FnQ K "_need_letter" "_need_letter" s_need_letter (He.fAd K ("_need_letter", none)) (fdAt K (He.fAd K ("_need_letter", none)))
  b_need_letter : Binds K (fdAt K (He.fAd K ("_need_letter", none))) ["letter"] []
  F_letter : FnQ K "letter" "letter" s_letter (He.fAd K ("letter", none)) (fdAt K (He.fAd K ("letter", none)))
  b_letter : Binds K (fdAt K (He.fAd K ("letter", none))) ["house", "known", "first", "heard"] []
  F_letter_of : FnQ K "letter_of" "letter_of" s_letter_of (He.fAd K ("letter_of", none)) (fdAt K (He.fAd K ("letter_of", none)))
  b_letter_of : Binds K (fdAt K (He.fAd K ("letter_of", none))) ["house", "known", "first", "heard"] []
  F_put : FnQ K "put" "put" s_put (He.fAd K ("put", none)) (fdAt K (He.fAd K ("put", none)))
  b_put : Binds K (fdAt K (He.fAd K ("put", none))) ["bag", "to", "letter"] []
  F_taken : FnQ K "taken" "taken" s_taken (He.fAd K ("taken", none)) (fdAt K (He.fAd K ("taken", none)))
  b_taken : Binds K (fdAt K (He.fAd K ("taken", none))) ["bag", "k"] []
  F_doubled : FnQ K "doubled" "doubled" s_doubled (He.fAd K ("doubled", none)) (fdAt K (He.fAd K ("doubled", none)))
  b_doubled : Binds K (fdAt K (He.fAd K ("doubled", none))) ["bag", "k"] []
  F_need_place : FnQ K "_need_place" "_need_place" s_need_place (He.fAd K ("_need_place", none)) (fdAt K (He.fAd K ("_need_place", none)))
  b_need_place : Binds K (fdAt K (He.fAd K ("_need_place", none))) ["bag", "k"] []
  F_size_in_bits : FnQ K "size_in_bits" "size_in_bits" s_size_in_bits (He.fAd K ("size_in_bits", none)) (fdAt K (He.fAd K ("size_in_bits", none)))
  b_size_in_bits : Binds K (fdAt K (He.fAd K ("size_in_bits", none))) ["letter"] []
  F_law_deck : FnQ K "_law_deck" "_law_deck" s_law_deck (He.fAd K ("_law_deck", none)) (fdAt K (He.fAd K ("_law_deck", none)))
  b_law_deck : Binds K (fdAt K (He.fAd K ("_law_deck", none))) ["script", "at"] []
  F_law_draw : FnQ K "_law_draw" "_law_draw" s_law_draw (He.fAd K ("_law_draw", none)) (fdAt K (He.fAd K ("_law_draw", none)))
  b_law_draw : Binds K (fdAt K (He.fAd K ("_law_draw", none))) ["deck", "many"] []
  F_law_same : FnQ K "_law_same" "_law_same" s_law_same (He.fAd K ("_law_same", none)) (fdAt K (He.fAd K ("_law_same", none)))
  b_law_same : Binds K (fdAt K (He.fAd K ("_law_same", none))) ["told", "due"] []
  F_law_letter : FnQ K "_law_letter" "_law_letter" s_law_letter (He.fAd K ("_law_letter", none)) (fdAt K (He.fAd K ("_law_letter", none)))
  b_law_letter : Binds K (fdAt K (He.fAd K ("_law_letter", none))) ["deck"] []
  F_law_no_letter : FnQ K "_law_no_letter" "_law_no_letter" s_law_no_letter (He.fAd K ("_law_no_letter", none)) (fdAt K (He.fAd K ("_law_no_letter", none)))
  b_law_no_letter : Binds K (fdAt K (He.fAd K ("_law_no_letter", none))) ["deck"] []
  F_law_refused : FnQ K "_law_refused" "_law_refused" s_law_refused (He.fAd K ("_law_refused", none)) (fdAt K (He.fAd K ("_law_refused", none)))
  b_law_refused : Binds K (fdAt K (He.fAd K ("_law_refused", none))) ["caught", "due"] []
  F_law_done : FnQ K "_law_done" "_law_done" s_law_done (He.fAd K ("_law_done", none)) (fdAt K (He.fAd K ("_law_done", none)))
  b_law_done : Binds K (fdAt K (He.fAd K ("_law_done", none))) ["word", "bag", "thing", "k"] []
  F_law_due : FnQ K "_law_due" "_law_due" s_law_due (He.fAd K ("_law_due", none)) (fdAt K (He.fAd K ("_law_due", none)))
  b_law_due : Binds K (fdAt K (He.fAd K ("_law_due", none))) ["word", "bag", "thing", "k", "good"] []
  F_law_bag_right : FnQ K "_law_bag_right" "_law_bag_right" s_law_bag_right (He.fAd K ("_law_bag_right", none)) (fdAt K (He.fAd K ("_law_bag_right", none)))
  b_law_bag_right : Binds K (fdAt K (He.fAd K ("_law_bag_right", none))) ["deck"] []
  F_law_letters_right : FnQ K "_law_letters_right" "_law_letters_right" s_law_letters_right (He.fAd K ("_law_letters_right", none)) (fdAt K (He.fAd K ("_law_letters_right", none)))
  b_law_letters_right : Binds K (fdAt K (He.fAd K ("_law_letters_right", none))) ["deck"] []
  F_law : FnQ K "law" "law" s_law (He.fAd K ("law", none)) (fdAt K (He.fAd K ("law", none)))
  b_law : Binds K (fdAt K (He.fAd K ("law", none))) ["script"] []
  F_GameError_init : FnQ K "__init__" "GameError.__init__" s_GameError_init (He.fAd K ("GameError", some "__init__")) (fdAt K (He.fAd K ("GameError", some "__init__")))
  b_GameError_init : Binds K (fdAt K (He.fAd K ("GameError", some "__init__"))) ["self", "value"] []
  g_is_whole : mg "is_whole" = some (.ref (He.ga K "is_whole"))
  g_is_between : mg "is_between" = some (.ref (He.ga K "is_between"))
  g_ascends : mg "ascends" = some (.ref (He.ga K "ascends"))
  g_is_press : mg "is_press" = some (.ref (He.ga K "is_press"))
  g_is_known : mg "is_known" = some (.ref (He.ga K "is_known"))
  g_is_made : mg "_is_made" = some (.ref (He.ga K "_is_made"))
  g_is_tick : mg "_is_tick" = some (.ref (He.ga K "_is_tick"))
  g_is_letter : mg "is_letter" = some (.ref (He.ga K "is_letter"))
  g_is_from_0 : mg "_is_from_0" = some (.ref (He.ga K "_is_from_0"))
  g_need_letter : mg "_need_letter" = some (.ref (He.ga K "_need_letter"))
  g_letter : mg "letter" = some (.ref (He.ga K "letter"))
  g_letter_of : mg "letter_of" = some (.ref (He.ga K "letter_of"))
  g_put : mg "put" = some (.ref (He.ga K "put"))
  g_taken : mg "taken" = some (.ref (He.ga K "taken"))
  g_doubled : mg "doubled" = some (.ref (He.ga K "doubled"))
  g_need_place : mg "_need_place" = some (.ref (He.ga K "_need_place"))
  g_size_in_bits : mg "size_in_bits" = some (.ref (He.ga K "size_in_bits"))
  g_law_deck : mg "_law_deck" = some (.ref (He.ga K "_law_deck"))
  g_law_draw : mg "_law_draw" = some (.ref (He.ga K "_law_draw"))
  g_law_same : mg "_law_same" = some (.ref (He.ga K "_law_same"))
  g_law_letter : mg "_law_letter" = some (.ref (He.ga K "_law_letter"))
  g_law_no_letter : mg "_law_no_letter" = some (.ref (He.ga K "_law_no_letter"))
  g_law_refused : mg "_law_refused" = some (.ref (He.ga K "_law_refused"))
  g_law_done : mg "_law_done" = some (.ref (He.ga K "_law_done"))
  g_law_due : mg "_law_due" = some (.ref (He.ga K "_law_due"))
  g_law_bag_right : mg "_law_bag_right" = some (.ref (He.ga K "_law_bag_right"))
  g_law_letters_right : mg "_law_letters_right" = some (.ref (He.ga K "_law_letters_right"))
  g_law : mg "law" = some (.ref (He.ga K "law"))
  n_len : mg "len" = none
  n_int : mg "int" = none
  n_isinstance : mg "isinstance" = none
  n_range : mg "range" = none
  n_all : mg "all" = none
  n_min : mg "min" = none
  n_max : mg "max" = none
  n_bool : mg "bool" = none
  n_tuple : mg "tuple" = none
  n_list : mg "list" = none
  n_zip : mg "zip" = none
  n_ValueError : mg "ValueError" = none
  n_repr : mg "repr" = none
  n_abs : mg "abs" = none
  c_MOST_PRESS : ∃ u, mg "MOST_PRESS" = some u ∧ RelV (.int 63) u
  c_MOST_PRESSES : ∃ u, mg "MOST_PRESSES" = some u ∧ RelV (.int 32) u
  c_BITS_OF_HOUSE : ∃ u, mg "BITS_OF_HOUSE" = some u ∧ RelV (.int 8) u
  c_BITS_OF_TICK : ∃ u, mg "BITS_OF_TICK" = some u ∧ RelV (.int 16) u
  c_BITS_OF_PRESS : ∃ u, mg "BITS_OF_PRESS" = some u ∧ RelV (.int 6) u
  c_BITS_OF_LENGTH : ∃ u, mg "BITS_OF_LENGTH" = some u ∧ RelV (.int 6) u
  g_GameError : mg "GameError" = some (.ref (He.ga K "GameError"))
  g_InvalidKnown : mg "InvalidKnown" = some (.ref (He.ga K "InvalidKnown"))
  g_InvalidTick : mg "InvalidTick" = some (.ref (He.ga K "InvalidTick"))
  g_InvalidHouse : mg "InvalidHouse" = some (.ref (He.ga K "InvalidHouse"))
  g_InvalidLetter : mg "InvalidLetter" = some (.ref (He.ga K "InvalidLetter"))
  g_InvalidPlace : mg "InvalidPlace" = some (.ref (He.ga K "InvalidPlace"))
  ex : exAll K = true
theorem txt_of {K : PySem.W.Frag} {w : World} {h h0 : Heap} {mg : Str → Option Value} (X : K.In h) (G : h.Ns mainGlobals mg) (c : He.SaysX fa fn tabs [] exs w h0 K) : Txt K w mg := by
  have cd := c.t.d
  have e0 : exs K = true := c.more
  unfold exs at e0
  obtain ⟨x0, e0⟩ := He.ba e0
  obtain ⟨fd_is_whole, f_is_whole⟩ := cd.def_ 0 (d := d_is_whole) rfl
  obtain ⟨fd_is_between, f_is_between⟩ := cd.def_ 1 (d := d_is_between) rfl
  obtain ⟨fd_ascends, f_ascends⟩ := cd.def_ 2 (d := d_ascends) rfl
  obtain ⟨fd_is_press, f_is_press⟩ := cd.def_ 3 (d := d_is_press) rfl
  obtain ⟨fd_is_known, f_is_known⟩ := cd.def_ 4 (d := d_is_known) rfl
  obtain ⟨fd_is_made, f_is_made⟩ := cd.def_ 5 (d := d_is_made) rfl
  obtain ⟨fd_is_tick, f_is_tick⟩ := cd.def_ 6 (d := d_is_tick) rfl
  obtain ⟨fd_is_letter, f_is_letter⟩ := cd.def_ 7 (d := d_is_letter) rfl
  obtain ⟨fd_is_from_0, f_is_from_0⟩ := cd.def_ 8 (d := d_is_from_0) rfl
  obtain ⟨fd_need_letter, f_need_letter⟩ := cd.def_ 9 (d := d_need_letter) rfl
  obtain ⟨fd_letter, f_letter⟩ := cd.def_ 10 (d := d_letter) rfl
  obtain ⟨fd_letter_of, f_letter_of⟩ := cd.def_ 11 (d := d_letter_of) rfl
  obtain ⟨fd_put, f_put⟩ := cd.def_ 12 (d := d_put) rfl
  obtain ⟨fd_taken, f_taken⟩ := cd.def_ 13 (d := d_taken) rfl
  obtain ⟨fd_doubled, f_doubled⟩ := cd.def_ 14 (d := d_doubled) rfl
  obtain ⟨fd_need_place, f_need_place⟩ := cd.def_ 15 (d := d_need_place) rfl
  obtain ⟨fd_size_in_bits, f_size_in_bits⟩ := cd.def_ 16 (d := d_size_in_bits) rfl
  obtain ⟨fd_law_deck, f_law_deck⟩ := cd.def_ 17 (d := d_law_deck) rfl
  obtain ⟨fd_law_draw, f_law_draw⟩ := cd.def_ 18 (d := d_law_draw) rfl
  obtain ⟨fd_law_same, f_law_same⟩ := cd.def_ 19 (d := d_law_same) rfl
  obtain ⟨fd_law_letter, f_law_letter⟩ := cd.def_ 20 (d := d_law_letter) rfl
  obtain ⟨fd_law_no_letter, f_law_no_letter⟩ := cd.def_ 21 (d := d_law_no_letter) rfl
  obtain ⟨fd_law_refused, f_law_refused⟩ := cd.def_ 22 (d := d_law_refused) rfl
  obtain ⟨fd_law_done, f_law_done⟩ := cd.def_ 23 (d := d_law_done) rfl
  obtain ⟨fd_law_due, f_law_due⟩ := cd.def_ 24 (d := d_law_due) rfl
  obtain ⟨fd_law_bag_right, f_law_bag_right⟩ := cd.def_ 25 (d := d_law_bag_right) rfl
  obtain ⟨fd_law_letters_right, f_law_letters_right⟩ := cd.def_ 26 (d := d_law_letters_right) rfl
  obtain ⟨fd_law, f_law⟩ := cd.def_ 27 (d := d_law) rfl
  obtain ⟨fd_GameError_init, f_GameError_init⟩ := cd.def_ 28 (d := d_GameError_init) rfl
  exact {
    F_is_whole := fdAt_eq f_is_whole
    b_is_whole := (fdAt_eq (st := s_is_whole) f_is_whole).bindsN fun _ _ _ _ _ _ us hl => match us, hl with | [_], _ => rfl
    F_is_between := fdAt_eq f_is_between
    b_is_between := (fdAt_eq (st := s_is_between) f_is_between).bindsN fun _ _ _ _ _ _ us hl => match us, hl with | [_, _, _], _ => rfl
    F_ascends := fdAt_eq f_ascends
    b_ascends := (fdAt_eq (st := s_ascends) f_ascends).bindsN fun _ _ _ _ _ _ us hl => match us, hl with | [_], _ => rfl
    F_is_press := fdAt_eq f_is_press
    b_is_press := (fdAt_eq (st := s_is_press) f_is_press).bindsN fun _ _ _ _ _ _ us hl => match us, hl with | [_], _ => rfl
    F_is_known := fdAt_eq f_is_known
    b_is_known := (fdAt_eq (st := s_is_known) f_is_known).bindsN fun _ _ _ _ _ _ us hl => match us, hl with | [_], _ => rfl
    F_is_made := fdAt_eq f_is_made
    b_is_made := (fdAt_eq (st := s_is_made) f_is_made).bindsN fun _ _ _ _ _ _ us hl => match us, hl with | [_, _], _ => rfl
    F_is_tick := fdAt_eq f_is_tick
    b_is_tick := (fdAt_eq (st := s_is_tick) f_is_tick).bindsN fun _ _ _ _ _ _ us hl => match us, hl with | [_], _ => rfl
    F_is_letter := fdAt_eq f_is_letter
    b_is_letter := (fdAt_eq (st := s_is_letter) f_is_letter).bindsN fun _ _ _ _ _ _ us hl => match us, hl with | [_], _ => rfl
    F_is_from_0 := fdAt_eq f_is_from_0
    b_is_from_0 := (fdAt_eq (st := s_is_from_0) f_is_from_0).bindsN fun _ _ _ _ _ _ us hl => match us, hl with | [_], _ => rfl
    F_need_letter := fdAt_eq f_need_letter
    b_need_letter := (fdAt_eq (st := s_need_letter) f_need_letter).bindsN fun _ _ _ _ _ _ us hl => match us, hl with | [_], _ => rfl
    F_letter := fdAt_eq f_letter
    b_letter := (fdAt_eq (st := s_letter) f_letter).bindsN fun _ _ _ _ _ _ us hl => match us, hl with | [_, _, _, _], _ => rfl
    F_letter_of := fdAt_eq f_letter_of
    b_letter_of := (fdAt_eq (st := s_letter_of) f_letter_of).bindsN fun _ _ _ _ _ _ us hl => match us, hl with | [_, _, _, _], _ => rfl
    F_put := fdAt_eq f_put
    b_put := (fdAt_eq (st := s_put) f_put).bindsN fun _ _ _ _ _ _ us hl => match us, hl with | [_, _, _], _ => rfl
    F_taken := fdAt_eq f_taken
    b_taken := (fdAt_eq (st := s_taken) f_taken).bindsN fun _ _ _ _ _ _ us hl => match us, hl with | [_, _], _ => rfl
    F_doubled := fdAt_eq f_doubled
    b_doubled := (fdAt_eq (st := s_doubled) f_doubled).bindsN fun _ _ _ _ _ _ us hl => match us, hl with | [_, _], _ => rfl
    F_need_place := fdAt_eq f_need_place
    b_need_place := (fdAt_eq (st := s_need_place) f_need_place).bindsN fun _ _ _ _ _ _ us hl => match us, hl with | [_, _], _ => rfl
    F_size_in_bits := fdAt_eq f_size_in_bits
    b_size_in_bits := (fdAt_eq (st := s_size_in_bits) f_size_in_bits).bindsN fun _ _ _ _ _ _ us hl => match us, hl with | [_], _ => rfl
    F_law_deck := fdAt_eq f_law_deck
    b_law_deck := (fdAt_eq (st := s_law_deck) f_law_deck).bindsN fun _ _ _ _ _ _ us hl => match us, hl with | [_, _], _ => rfl
    F_law_draw := fdAt_eq f_law_draw
    b_law_draw := (fdAt_eq (st := s_law_draw) f_law_draw).bindsN fun _ _ _ _ _ _ us hl => match us, hl with | [_, _], _ => rfl
    F_law_same := fdAt_eq f_law_same
    b_law_same := (fdAt_eq (st := s_law_same) f_law_same).bindsN fun _ _ _ _ _ _ us hl => match us, hl with | [_, _], _ => rfl
    F_law_letter := fdAt_eq f_law_letter
    b_law_letter := (fdAt_eq (st := s_law_letter) f_law_letter).bindsN fun _ _ _ _ _ _ us hl => match us, hl with | [_], _ => rfl
    F_law_no_letter := fdAt_eq f_law_no_letter
    b_law_no_letter := (fdAt_eq (st := s_law_no_letter) f_law_no_letter).bindsN fun _ _ _ _ _ _ us hl => match us, hl with | [_], _ => rfl
    F_law_refused := fdAt_eq f_law_refused
    b_law_refused := (fdAt_eq (st := s_law_refused) f_law_refused).bindsN fun _ _ _ _ _ _ us hl => match us, hl with | [_, _], _ => rfl
    F_law_done := fdAt_eq f_law_done
    b_law_done := (fdAt_eq (st := s_law_done) f_law_done).bindsN fun _ _ _ _ _ _ us hl => match us, hl with | [_, _, _, _], _ => rfl
    F_law_due := fdAt_eq f_law_due
    b_law_due := (fdAt_eq (st := s_law_due) f_law_due).bindsN fun _ _ _ _ _ _ us hl => match us, hl with | [_, _, _, _, _], _ => rfl
    F_law_bag_right := fdAt_eq f_law_bag_right
    b_law_bag_right := (fdAt_eq (st := s_law_bag_right) f_law_bag_right).bindsN fun _ _ _ _ _ _ us hl => match us, hl with | [_], _ => rfl
    F_law_letters_right := fdAt_eq f_law_letters_right
    b_law_letters_right := (fdAt_eq (st := s_law_letters_right) f_law_letters_right).bindsN fun _ _ _ _ _ _ us hl => match us, hl with | [_], _ => rfl
    F_law := fdAt_eq f_law
    b_law := (fdAt_eq (st := s_law) f_law).bindsN fun _ _ _ _ _ _ us hl => match us, hl with | [_], _ => rfl
    F_GameError_init := fdAt_eq f_GameError_init
    b_GameError_init := (fdAt_eq (st := s_GameError_init) f_GameError_init).bindsN fun _ _ _ _ _ _ us hl => match us, hl with | [_, _], _ => rfl
    g_is_whole := He.glo_ok X G (cd.fact 0 (f := .glo "is_whole") rfl)
    g_is_between := He.glo_ok X G (cd.fact 1 (f := .glo "is_between") rfl)
    g_ascends := He.glo_ok X G (cd.fact 2 (f := .glo "ascends") rfl)
    g_is_press := He.glo_ok X G (cd.fact 3 (f := .glo "is_press") rfl)
    g_is_known := He.glo_ok X G (cd.fact 4 (f := .glo "is_known") rfl)
    g_is_made := He.glo_ok X G (cd.fact 5 (f := .glo "_is_made") rfl)
    g_is_tick := He.glo_ok X G (cd.fact 6 (f := .glo "_is_tick") rfl)
    g_is_letter := He.glo_ok X G (cd.fact 7 (f := .glo "is_letter") rfl)
    g_is_from_0 := He.glo_ok X G (cd.fact 8 (f := .glo "_is_from_0") rfl)
    g_need_letter := He.glo_ok X G (cd.fact 9 (f := .glo "_need_letter") rfl)
    g_letter := He.glo_ok X G (cd.fact 10 (f := .glo "letter") rfl)
    g_letter_of := He.glo_ok X G (cd.fact 11 (f := .glo "letter_of") rfl)
    g_put := He.glo_ok X G (cd.fact 12 (f := .glo "put") rfl)
    g_taken := He.glo_ok X G (cd.fact 13 (f := .glo "taken") rfl)
    g_doubled := He.glo_ok X G (cd.fact 14 (f := .glo "doubled") rfl)
    g_need_place := He.glo_ok X G (cd.fact 15 (f := .glo "_need_place") rfl)
    g_size_in_bits := He.glo_ok X G (cd.fact 16 (f := .glo "size_in_bits") rfl)
    g_law_deck := He.glo_ok X G (cd.fact 17 (f := .glo "_law_deck") rfl)
    g_law_draw := He.glo_ok X G (cd.fact 18 (f := .glo "_law_draw") rfl)
    g_law_same := He.glo_ok X G (cd.fact 19 (f := .glo "_law_same") rfl)
    g_law_letter := He.glo_ok X G (cd.fact 20 (f := .glo "_law_letter") rfl)
    g_law_no_letter := He.glo_ok X G (cd.fact 21 (f := .glo "_law_no_letter") rfl)
    g_law_refused := He.glo_ok X G (cd.fact 22 (f := .glo "_law_refused") rfl)
    g_law_done := He.glo_ok X G (cd.fact 23 (f := .glo "_law_done") rfl)
    g_law_due := He.glo_ok X G (cd.fact 24 (f := .glo "_law_due") rfl)
    g_law_bag_right := He.glo_ok X G (cd.fact 25 (f := .glo "_law_bag_right") rfl)
    g_law_letters_right := He.glo_ok X G (cd.fact 26 (f := .glo "_law_letters_right") rfl)
    g_law := He.glo_ok X G (cd.fact 27 (f := .glo "law") rfl)
    n_len := He.free_ok X G (cd.fact 28 (f := .free "len") rfl)
    n_int := He.free_ok X G (cd.fact 29 (f := .free "int") rfl)
    n_isinstance := He.free_ok X G (cd.fact 30 (f := .free "isinstance") rfl)
    n_range := He.free_ok X G (cd.fact 31 (f := .free "range") rfl)
    n_all := He.free_ok X G (cd.fact 32 (f := .free "all") rfl)
    n_min := He.free_ok X G (cd.fact 33 (f := .free "min") rfl)
    n_max := He.free_ok X G (cd.fact 34 (f := .free "max") rfl)
    n_bool := He.free_ok X G (cd.fact 35 (f := .free "bool") rfl)
    n_tuple := He.free_ok X G (cd.fact 36 (f := .free "tuple") rfl)
    n_list := He.free_ok X G (cd.fact 37 (f := .free "list") rfl)
    n_zip := He.free_ok X G (cd.fact 38 (f := .free "zip") rfl)
    n_ValueError := He.free_ok X G (cd.fact 39 (f := .free "ValueError") rfl)
    n_repr := He.free_ok X G (cd.fact 40 (f := .free "repr") rfl)
    n_abs := He.free_ok X G (cd.fact 41 (f := .free "abs") rfl)
    c_MOST_PRESS := by
      obtain ⟨t, e⟩ := He.int_ok X G (cd.fact 42 (f := .int "MOST_PRESS" 63) rfl)
      exact ⟨_, e, ⟨t, rfl⟩⟩
    c_MOST_PRESSES := by
      obtain ⟨t, e⟩ := He.int_ok X G (cd.fact 43 (f := .int "MOST_PRESSES" 32) rfl)
      exact ⟨_, e, ⟨t, rfl⟩⟩
    c_BITS_OF_HOUSE := by
      obtain ⟨t, e⟩ := He.int_ok X G (cd.fact 44 (f := .int "BITS_OF_HOUSE" 8) rfl)
      exact ⟨_, e, ⟨t, rfl⟩⟩
    c_BITS_OF_TICK := by
      obtain ⟨t, e⟩ := He.int_ok X G (cd.fact 45 (f := .int "BITS_OF_TICK" 16) rfl)
      exact ⟨_, e, ⟨t, rfl⟩⟩
    c_BITS_OF_PRESS := by
      obtain ⟨t, e⟩ := He.int_ok X G (cd.fact 46 (f := .int "BITS_OF_PRESS" 6) rfl)
      exact ⟨_, e, ⟨t, rfl⟩⟩
    c_BITS_OF_LENGTH := by
      obtain ⟨t, e⟩ := He.int_ok X G (cd.fact 47 (f := .int "BITS_OF_LENGTH" 6) rfl)
      exact ⟨_, e, ⟨t, rfl⟩⟩
    g_GameError := He.glo_ok X G (cd.fact 48 (f := .glo "GameError") rfl)
    g_InvalidKnown := He.glo_ok X G (cd.fact 49 (f := .glo "InvalidKnown") rfl)
    g_InvalidTick := He.glo_ok X G (cd.fact 50 (f := .glo "InvalidTick") rfl)
    g_InvalidHouse := He.glo_ok X G (cd.fact 51 (f := .glo "InvalidHouse") rfl)
    g_InvalidLetter := He.glo_ok X G (cd.fact 52 (f := .glo "InvalidLetter") rfl)
    g_InvalidPlace := He.glo_ok X G (cd.fact 53 (f := .glo "InvalidPlace") rfl)
    ex := x0
  }
end K51
set_option maxRecDepth 100000
set_option maxHeartbeats 2000000
/-! What is known, letters, what is learned: by lists alone. -/
namespace K51
open PySem PySem.Spec PyProof.Rows L2 KF
abbrev Rw := List (Int × Int)
structure Kn where
  row : Rw
  ends : Option Int
structure Lt where
  first : Int
  row : List Int
  ends : Option Int
def behind (e : Option Int) (t : Int) : Bool := match e with
  | some g => decide (g ≤ t)
  | none => false
def look (r : Rw) (t : Int) : Option Int := (r.find? fun e => decide (e.1 = t)).map (·.2)
def held (k : Kn) (t : Int) : Option Int := if behind k.ends t = true then some 0 else look k.row t
def keys (r : Rw) : List Int := r.map (·.1)
theorem look_mem {r : Rw} {t v : Int} (h : look r t = some v) : (t, v) ∈ r := by
  unfold look at h
  cases e : r.find? fun e => decide (e.1 = t) with
  | none => rw [e] at h; cases h
  | some q =>
    rw [e] at h
    have h1 := List.find?_some e
    have h2 := List.mem_of_find?_eq_some e
    obtain ⟨a, b⟩ := q
    have e1 : a = t := of_decide_eq_true h1
    have e2 : b = v := Option.some.inj h
    subst e1 e2
    exact h2
theorem look_none {r : Rw} {t : Int} (h : look r t = none) : t ∉ keys r := by
  intro hm
  obtain ⟨q, hq, e⟩ := List.mem_map.mp hm
  unfold look at h
  rw [Option.map_eq_none_iff, List.find?_eq_none] at h
  exact h q hq (decide_eq_true e)
theorem look_key {r : Rw} {t v : Int} (h : look r t = some v) : t ∈ keys r := List.mem_map.mpr ⟨_, look_mem h, rfl⟩
theorem look_of {r : Rw} {t v : Int} (nd : (keys r).Nodup) (h : (t, v) ∈ r) : look r t = some v := by
  cases e : look r t with
  | none => exact absurd (List.mem_map.mpr ⟨_, h, rfl⟩) (look_none e)
  | some u =>
    have hu := look_mem e
    induction r with
    | nil => cases h
    | cons q r ih =>
      have nd' : (q.1 :: keys r).Nodup := nd
      rw [List.nodup_cons] at nd'
      rcases List.mem_cons.mp h with h | h <;> rcases List.mem_cons.mp hu with hu | hu
      · rw [← h] at hu
        cases hu
        rfl
      · exact absurd (List.mem_map.mpr ⟨_, hu, by rw [← h]⟩) nd'.1
      · exact absurd (List.mem_map.mpr ⟨_, h, by rw [← hu]⟩) nd'.1
      · have hne : ¬ q.1 = t := fun z => nd'.1 (by rw [z]; exact List.mem_map.mpr ⟨_, h, rfl⟩)
        have e2 : look r t = some u := by
          unfold look at e ⊢
          rw [List.find?_cons_of_neg (by rw [decide_eq_true_eq]; exact hne)] at e
          exact e
        exact ih nd'.2 h e2 hu
theorem look_app {r s : Rw} {t : Int} : look (r ++ s) t = (look r t).or (look s t) := by
  unfold look
  rw [List.find?_append]
  cases r.find? fun e => decide (e.1 = t) <;> simp
theorem look_one {t u v : Int} : look [(u, v)] t = if u = t then some v else none := by
  unfold look
  by_cases e : u = t
  · rw [List.find?_cons_of_pos (by simp [e]), if_pos e]
    rfl
  · rw [List.find?_cons_of_neg (by simp [e]), if_neg e]
    rfl
/-! ### the program's way: what is not there yet is put behind -/
def setr (r : Rw) (t v : Int) : Rw := match look r t with
  | some _ => r
  | none => r ++ [(t, v)]
def addAll (r : Rw) (f : Int) : List Int → Rw
  | [] => r
  | p :: ps => addAll (setr r f p) (f + 1) ps
theorem addAll_snoc (r : Rw) (f : Int) (ps : List Int) (p : Int) : addAll r f (ps ++ [p]) = setr (addAll r f ps) (f + ps.length) p := by
  induction ps generalizing r f with
  | nil => simp [addAll]
  | cons q ps ih =>
    show addAll (setr r f q) (f + 1) (ps ++ [p]) = _
    rw [ih]
    have e : f + 1 + (ps.length : Int) = f + ((q :: ps).length : Int) := by rw [List.length_cons]; omega
    rw [e]
    rfl
theorem look_setr (r : Rw) (t v u : Int) : look (setr r t v) u = (look r u).or (if t = u then some v else none) := by
  unfold setr
  cases e : look r t with
  | some w =>
    by_cases h : t = u
    · subst h
      rw [e]
      rfl
    · rw [if_neg h]
      cases look r u <;> rfl
  | none =>
    show look (r ++ [(t, v)]) u = _
    rw [look_app, look_one]
theorem look_addAll (r : Rw) (f : Int) (ps : List Int) (u : Int) : look (addAll r f ps) u = (look r u).or (if f ≤ u then ps[(u - f).toNat]? else none) := by
  induction ps generalizing r f with
  | nil =>
    show look r u = _
    cases look r u <;> simp
  | cons p ps ih =>
    show look (addAll (setr r f p) (f + 1) ps) u = _
    rw [ih, look_setr]
    cases e : look r u with
    | some w => rfl
    | none =>
      by_cases h : f = u
      · subst h
        simp
      · rw [if_neg h]
        by_cases h2 : f ≤ u
        · rw [if_pos h2, if_pos (by omega)]
          have e2 : (u - f).toNat = (u - (f + 1)).toNat + 1 := by omega
          rw [e2]
          rfl
        · rw [if_neg h2, if_neg (by omega)]
          rfl
theorem nodup_setr {r : Rw} {t v : Int} (h : (keys r).Nodup) : (keys (setr r t v)).Nodup := by
  unfold setr
  cases e : look r t with
  | some w => exact h
  | none =>
    show (keys (r ++ [(t, v)])).Nodup
    unfold keys
    rw [List.map_append, List.nodup_append]
    refine ⟨h, by simp, fun a ha b hb e2 => look_none e ?_⟩
    rw [List.mem_map] at hb
    obtain ⟨q, hq, e3⟩ := hb
    rw [List.mem_singleton.mp hq] at e3
    rw [show t = a from e3.trans e2.symm]
    exact ha
theorem nodup_addAll {r : Rw} {f : Int} {ps : List Int} (h : (keys r).Nodup) : (keys (addAll r f ps)).Nodup := by
  induction ps generalizing r f with
  | nil => exact h
  | cons p ps ih => exact ih (nodup_setr h)
theorem len_setr (r : Rw) (t v : Int) : (setr r t v).length ≤ r.length + 1 := by
  unfold setr
  split
  · omega
  · rw [List.length_append]
    exact Nat.le_refl _
theorem len_addAll (r : Rw) (f : Int) (ps : List Int) : (addAll r f ps).length ≤ r.length + ps.length := by
  induction ps generalizing r f with
  | nil => exact Nat.le_refl _
  | cons p ps ih =>
    have h1 := ih (setr r f p) (f + 1)
    have h2 := len_setr r f p
    show (addAll (setr r f p) (f + 1) ps).length ≤ _
    rw [List.length_cons]
    omega
/-! ### the law's way: each is put -/
def putr (r : Rw) (t v : Int) : Rw := if (r.any fun e => decide (e.1 = t)) = true then r.map (fun e => if e.1 = t then (e.1, v) else e) else r ++ [(t, v)]
def putAll (r : Rw) (f : Int) : List Int → Rw
  | [] => r
  | p :: ps => putAll (putr r f p) (f + 1) ps
theorem putAll_snoc (r : Rw) (f : Int) (ps : List Int) (p : Int) : putAll r f (ps ++ [p]) = putr (putAll r f ps) (f + ps.length) p := by
  induction ps generalizing r f with
  | nil => simp [putAll]
  | cons q ps ih =>
    show putAll (putr r f q) (f + 1) (ps ++ [p]) = _
    rw [ih]
    have e : f + 1 + (ps.length : Int) = f + ((q :: ps).length : Int) := by rw [List.length_cons]; omega
    rw [e]
    rfl
theorem len_putr (r : Rw) (t v : Int) : (putr r t v).length ≤ r.length + 1 := by
  unfold putr
  split
  · rw [List.length_map]
    omega
  · rw [List.length_append]
    exact Nat.le_refl _
theorem len_putAll (r : Rw) (f : Int) (ps : List Int) : (putAll r f ps).length ≤ r.length + ps.length := by
  induction ps generalizing r f with
  | nil => exact Nat.le_refl _
  | cons p ps ih =>
    have h1 := ih (putr r f p) (f + 1)
    have h2 := len_putr r f p
    show (putAll (putr r f p) (f + 1) ps).length ≤ _
    rw [List.length_cons]
    omega
theorem putr_setr {r : Rw} {t v : Int} (nd : (keys r).Nodup) (h : ∀ u, look r t = some u → u = v) : putr r t v = setr r t v := by
  unfold putr setr
  cases e : look r t with
  | some w =>
    have hw := h w e
    subst hw
    have hm := look_mem e
    rw [if_pos (List.any_eq_true.mpr ⟨_, hm, decide_eq_true rfl⟩)]
    show r.map _ = r
    conv => rhs; rw [← List.map_id r]
    refine List.map_congr_left fun q hq => ?_
    split
    · rename_i h1
      have hq2 : (t, q.2) ∈ r := by rw [← h1]; exact hq
      have := look_of nd hq2
      rw [e] at this
      have e3 : w = q.2 := Option.some.inj this
      rw [e3]
      rfl
    · rfl
  | none =>
    have hn := look_none e
    rw [if_neg (by
      rw [List.any_eq_true]
      rintro ⟨q, hq, hd⟩
      exact hn (List.mem_map.mpr ⟨q, hq, of_decide_eq_true hd⟩))]
theorem putAll_addAll {r : Rw} {f : Int} {ps : List Int} (nd : (keys r).Nodup) (h : ∀ (j : Nat) p u, ps[j]? = some p → look r (f + j) = some u → u = p) : putAll r f ps = addAll r f ps := by
  induction ps generalizing r f with
  | nil => rfl
  | cons p ps ih =>
    have e : putr r f p = setr r f p := putr_setr nd fun u hu => h 0 p u rfl (by rw [show f + ((0 : Nat) : Int) = f from by omega]; exact hu)
    show putAll (putr r f p) (f + 1) ps = addAll (setr r f p) (f + 1) ps
    rw [e]
    refine ih (nodup_setr nd) fun j q u hq hu => ?_
    rw [look_setr, if_neg (by omega)] at hu
    have hu2 : look r (f + 1 + j) = some u := by
      cases e4 : look r (f + 1 + (j : Int)) with
      | none => rw [e4] at hu; cases hu
      | some z => rw [e4] at hu; exact hu
    refine h (j + 1) q u hq ?_
    rw [show f + ((j + 1 : Nat) : Int) = f + 1 + (j : Int) from by omega]
    exact hu2
/-! ### sorting -/
def srt (l : List Int) : List Int := l.mergeSort fun a b => decide (a ≤ b)
theorem srt_perm (l : List Int) : (srt l).Perm l := List.mergeSort_perm l _
theorem srt_sorted (l : List Int) : (srt l).Pairwise (· ≤ ·) := by
  have h := List.pairwise_mergeSort (le := fun a b : Int => decide (a ≤ b)) (fun a b c h1 h2 => by
    simp only [decide_eq_true_eq] at *
    omega) (fun a b => by
    simp only [Bool.or_eq_true, decide_eq_true_eq]
    omega) l
  exact h.imp fun {a b} h => of_decide_eq_true h
theorem sorted_eq : ∀ {l m : List Int}, l.Pairwise (· ≤ ·) → m.Pairwise (· ≤ ·) → l.Perm m → l = m
  | [], m, _, _, p => p.nil_eq
  | x :: l, [], _, _, p => by
    have := p.length_eq
    simp at this
  | x :: l, y :: m, h1, h2, p => by
    rw [List.pairwise_cons] at h1 h2
    have e : x = y := by
      have a : x ∈ y :: m := p.mem_iff.mp List.mem_cons_self
      have b : y ∈ x :: l := p.mem_iff.mpr List.mem_cons_self
      rcases List.mem_cons.mp a with a | a
      · exact a
      rcases List.mem_cons.mp b with b | b
      · exact b.symm
      have := h1.1 y b
      have := h2.1 x a
      omega
    subst e
    rw [sorted_eq h1.2 h2.2 (List.perm_cons x |>.mp p)]
theorem srt_of {l ys : List Int} (p : ys.Perm l) (h : ys.Pairwise (· ≤ ·)) : ys = srt l := sorted_eq h (srt_sorted l) (p.trans (srt_perm l).symm)
theorem asc_len : ∀ {l : List Int} {a b : Int}, l.Pairwise (· < ·) → (∀ x ∈ l, a ≤ x ∧ x < b) → (l.length : Int) ≤ b - a ∨ l = []
  | [], _, _, _, _ => .inr rfl
  | x :: l, a, b, h, hb => by
    rw [List.pairwise_cons] at h
    have hx := hb x List.mem_cons_self
    left
    rcases asc_len (a := x + 1) (b := b) h.2 (fun y hy => ⟨by have := h.1 y hy; omega, (hb y (List.mem_cons_of_mem _ hy)).2⟩) with q | q
    · rw [List.length_cons]
      omega
    · rw [q]
      simp
      omega
/-! ### what is right -/
structure Kn.ok (k : Kn) : Prop where
  asc : (keys k.row).Pairwise (· < ·)
  rng : ∀ q ∈ k.row, 0 ≤ q.1 ∧ q.1 < 1000 ∧ 0 ≤ q.2 ∧ q.2 ≤ 63
  ends : ∀ g, k.ends = some g → 0 ≤ g ∧ g ≤ 1000 ∧ ∀ q ∈ k.row, q.1 < g
structure Lt.ok (l : Lt) : Prop where
  first : 0 ≤ l.first ∧ l.first ≤ 400
  len : l.row.length ≤ 32
  top : l.first + l.row.length ≤ 400
  rng : ∀ p ∈ l.row, 0 ≤ p ∧ p ≤ 63
  ends : ∀ e, l.ends = some e → l.first + l.row.length ≤ e ∧ e ≤ 400
theorem Kn.ok.nd {k : Kn} (h : k.ok) : (keys k.row).Nodup := h.asc.imp fun {a b} z => Int.ne_of_lt z
theorem Kn.ok.len {k : Kn} (h : k.ok) : k.row.length ≤ 1000 := by
  have e : (keys k.row).length = k.row.length := List.length_map _
  rcases asc_len (a := 0) (b := 1000) h.asc (fun x hx => by
    obtain ⟨q, hq, e⟩ := List.mem_map.mp hx
    have := h.rng q hq
    rw [← e]
    exact ⟨this.1, this.2.1⟩) with q | q
  · rw [e] at q
    omega
  · rw [← e, q]
    exact Nat.zero_le _
def ende (k : Kn) (l : Lt) : Option Int := match k.ends with
  | some g => some g
  | none => l.ends
def all (k : Kn) (l : Lt) : Rw := addAll k.row l.first l.row
def lrn (k : Kn) (l : Lt) : Kn := ⟨((srt (keys (all k l))).filter fun t => !behind (ende k l) t).map fun t => (t, (look (all k l) t).getD 0), ende k l⟩
def BadP (k : Kn) (l : Lt) (x : Int) : Prop := (∃ (j : Nat) (p h : Int), l.row[j]? = some p ∧ x = l.first + j ∧ held k x = some h ∧ h ≠ p) ∨
  (∃ e, l.ends = some e ∧ ((∃ p, (x, p) ∈ k.row ∧ e ≤ x ∧ p ≠ 0) ∨ ∃ g, k.ends = some g ∧ g ≠ e ∧ x = min g e))
def ClP (k : Kn) (l : Lt) (x : Int) : Prop := (∃ g e, k.ends = some g ∧ l.ends = some e ∧ g ≠ e ∧ x = min g e) ∨ (∃ (j : Nat) (p h : Int), l.row[j]? = some p ∧ x = l.first + j ∧ look k.row x = some h ∧ h ≠ p) ∨
  (behind (ende k l) x = true ∧ ∃ v, look (all k l) x = some v ∧ v ≠ 0)
theorem key_look {r : Rw} {t : Int} (h : t ∈ keys r) : ∃ v, look r t = some v := by
  cases e : look r t with
  | none => exact absurd h (look_none e)
  | some v => exact ⟨v, rfl⟩
def C1 (k : Kn) (l : Lt) (x : Int) : Prop := ∃ g e, k.ends = some g ∧ l.ends = some e ∧ g ≠ e ∧ x = min g e
def C2 (k : Kn) (l : Lt) (n : Nat) (x : Int) : Prop := ∃ (j : Nat) (p h : Int), j < n ∧ l.row[j]? = some p ∧ x = l.first + j ∧ look k.row x = some h ∧ h ≠ p
def C3 (k : Kn) (l : Lt) (t : Int) : Bool := behind (ende k l) t && !decide ((look (all k l) t).getD 0 = 0)
def csE : Option Int → Option Int → List Int
  | some x, some y => if x = y then [] else [min x y]
  | _, _ => []
def cs0 (k : Kn) (l : Lt) : List Int := csE k.ends l.ends
theorem cs0_iff (k : Kn) (l : Lt) (x : Int) : x ∈ cs0 k l ↔ C1 k l x ∨ C2 k l 0 x := by
  have n2 : ¬ C2 k l 0 x := fun ⟨j, _, _, h, _⟩ => absurd h (by omega)
  unfold cs0 C1 csE
  cases k.ends with
  | none => simp [n2]
  | some g =>
    cases l.ends with
    | none => simp [n2]
    | some e =>
      by_cases h : g = e
      · simp [h, n2]
      · simp [h, n2]
theorem cs0_len (k : Kn) (l : Lt) : (cs0 k l).length ≤ 1 := by
  unfold cs0 csE
  split
  · split <;> simp
  · simp
theorem c2_step {k : Kn} {l : Lt} {i : Nat} {p : Int} (hp : l.row[i]? = some p) (x : Int) : C2 k l (i + 1) x ↔ C2 k l i x ∨ (x = l.first + i ∧ ∃ h, look k.row x = some h ∧ h ≠ p) := by
  constructor
  · rintro ⟨j, q, h, h1, h2, h3, h4, h5⟩
    by_cases e : j = i
    · subst e
      rw [hp] at h2
      cases h2
      exact .inr ⟨h3, h, h4, h5⟩
    · exact .inl ⟨j, q, h, by omega, h2, h3, h4, h5⟩
  · rintro (⟨j, q, h, h1, h2, h3, h4, h5⟩ | ⟨h3, h, h4, h5⟩)
    · exact ⟨j, q, h, by omega, h2, h3, h4, h5⟩
    · exact ⟨i, p, h, by omega, hp, h3, h4, h5⟩
theorem look_take {k : Kn} {l : Lt} (i : Nat) : look (addAll k.row l.first (l.row.take i)) (l.first + i) = look k.row (l.first + i) := by
  rw [look_addAll]
  have : (l.row.take i)[(l.first + (i : Int) - l.first).toNat]? = none := List.getElem?_eq_none (by rw [List.length_take]; omega)
  rw [this]
  cases look k.row (l.first + i) <;> simp
theorem cl_iff {k : Kn} {l : Lt} (x : Int) : ClP k l x ↔ (C1 k l x ∨ C2 k l l.row.length x) ∨ (x ∈ keys (all k l) ∧ C3 k l x = true) := by
  unfold ClP C3
  constructor
  · rintro (h | ⟨j, p, h, h1, h2, h3, h4⟩ | ⟨h1, v, h2, h3⟩)
    · exact .inl (.inl h)
    · exact .inl (.inr ⟨j, p, h, (List.getElem?_eq_some_iff.mp h1).1, h1, h2, h3, h4⟩)
    · exact .inr ⟨look_key h2, by rw [h1, h2]; simpa using h3⟩
  · rintro ((h | ⟨j, p, h, h0, h1, h2, h3, h4⟩) | ⟨h1, h2⟩)
    · exact .inl h
    · exact .inr (.inl ⟨j, p, h, h1, h2, h3, h4⟩)
    · obtain ⟨a, b⟩ := Bool.and_eq_true_iff.mp h2
      obtain ⟨v, hv⟩ := key_look h1
      rw [hv] at b
      exact .inr (.inr ⟨a, v, hv, by simpa using b⟩)
theorem all_cases {k : Kn} {l : Lt} {t v : Int} (h : look (all k l) t = some v) : look k.row t = some v ∨ (look k.row t = none ∧ ∃ j : Nat, l.row[j]? = some v ∧ t = l.first + j) := by
  unfold all at h
  rw [look_addAll] at h
  cases e : look k.row t with
  | some u =>
    rw [e] at h
    exact .inl h
  | none =>
    rw [e] at h
    right
    refine ⟨rfl, (t - l.first).toNat, ?_⟩
    by_cases h2 : l.first ≤ t
    · rw [if_pos h2] at h
      exact ⟨h, by omega⟩
    · rw [if_neg h2] at h
      cases h
theorem all_of {k : Kn} {l : Lt} {t v : Int} (h : look k.row t = some v) : look (all k l) t = some v := by
  unfold all
  rw [look_addAll, h]
  rfl
theorem all_new {k : Kn} {l : Lt} {j : Nat} {v : Int} (h : look k.row (l.first + j) = none) (hj : l.row[j]? = some v) : look (all k l) (l.first + j) = some v := by
  unfold all
  rw [look_addAll, h, if_pos (by omega), show (l.first + (j : Int) - l.first).toNat = j by omega, hj]
  rfl
theorem notBehind {k : Kn} (ok : k.ok) {t v : Int} (h : look k.row t = some v) : behind k.ends t = false := by
  unfold behind
  cases e : k.ends with
  | none => rfl
  | some g =>
    have := (ok.ends g e).2.2 _ (look_mem h)
    exact decide_eq_false (by show ¬ g ≤ t; have : t < g := this; omega)
theorem held_of {k : Kn} (ok : k.ok) {t v : Int} (h : look k.row t = some v) : held k t = some v := by
  unfold held
  rw [notBehind ok h]
  exact h
def B1 (k : Kn) (l : Lt) (n : Nat) (x : Int) : Prop := ∃ (j : Nat) (p h : Int), j < n ∧ l.row[j]? = some p ∧ x = l.first + j ∧ held k x = some h ∧ h ≠ p
theorem b1_step {k : Kn} {l : Lt} {i : Nat} {p : Int} (hp : l.row[i]? = some p) (x : Int) : B1 k l (i + 1) x ↔ B1 k l i x ∨ (x = l.first + i ∧ ∃ h, held k x = some h ∧ h ≠ p) := by
  constructor
  · rintro ⟨j, q, h, h1, h2, h3, h4, h5⟩
    by_cases e : j = i
    · subst e
      rw [hp] at h2
      cases h2
      exact .inr ⟨h3, h, h4, h5⟩
    · exact .inl ⟨j, q, h, by omega, h2, h3, h4, h5⟩
  · rintro (⟨j, q, h, h1, h2, h3, h4, h5⟩ | ⟨h3, h, h4, h5⟩)
    · exact ⟨j, q, h, by omega, h2, h3, h4, h5⟩
    · exact ⟨i, p, h, by omega, hp, h3, h4, h5⟩
theorem b1_zero {k : Kn} {l : Lt} (x : Int) : ¬ B1 k l 0 x := fun ⟨j, _, _, h, _⟩ => absurd h (by omega)
theorem bad_iff {k : Kn} {l : Lt} (x : Int) : BadP k l x ↔ B1 k l l.row.length x ∨ (∃ e, l.ends = some e ∧ ((∃ p, (x, p) ∈ k.row ∧ e ≤ x ∧ p ≠ 0) ∨ ∃ g, k.ends = some g ∧ g ≠ e ∧ x = min g e)) := by
  unfold BadP B1
  constructor
  · rintro (⟨j, p, h, h1, h2, h3, h4⟩ | h)
    · exact .inl ⟨j, p, h, (List.getElem?_eq_some_iff.mp h1).1, h1, h2, h3, h4⟩
    · exact .inr h
  · rintro (⟨j, p, h, h0, h1, h2, h3, h4⟩ | h)
    · exact .inl ⟨j, p, h, h1, h2, h3, h4⟩
    · exact .inr h
theorem cl_bad {k : Kn} {l : Lt} (ok : k.ok) (lo : l.ok) {x : Int} (h : ClP k l x) : ∃ y, BadP k l y ∧ y ≤ x := by
  rcases h with ⟨g, e, h1, h2, h3, h4⟩ | ⟨j, p, h, h1, h2, h3, h4⟩ | ⟨h1, v, h2, h3⟩
  · exact ⟨x, .inr ⟨e, h2, .inr ⟨g, h1, h3, h4⟩⟩, Int.le_refl _⟩
  · exact ⟨x, .inl ⟨j, p, h, h1, h2, held_of ok h3, h4⟩, Int.le_refl _⟩
  · refine ⟨x, ?_, Int.le_refl _⟩
    unfold ende at h1
    cases hg : k.ends with
    | some g =>
      rw [hg] at h1
      have hb : behind k.ends x = true := by rw [hg]; exact h1
      rcases all_cases h2 with q | ⟨q, j, hj, e⟩
      · rw [notBehind ok q] at hb
        cases hb
      · exact .inl ⟨j, v, 0, hj, e, by unfold held; rw [if_pos hb], fun z => h3 z.symm⟩
    | none =>
      rw [hg] at h1
      cases he : l.ends with
      | none => rw [he] at h1; cases h1
      | some e =>
        rw [he] at h1
        have hx : e ≤ x := of_decide_eq_true h1
        rcases all_cases h2 with q | ⟨q, j, hj, e2⟩
        · exact .inr ⟨e, he, .inl ⟨v, look_mem q, hx, h3⟩⟩
        · have := (lo.ends e he).1
          have := (List.getElem?_eq_some_iff.mp hj).1
          omega
theorem bad_cl {k : Kn} {l : Lt} (ok : k.ok) (lo : l.ok) {x : Int} (h : BadP k l x) : ∃ y, ClP k l y ∧ y ≤ x := by
  rcases h with ⟨j, p, h, h1, h2, h3, h4⟩ | ⟨e, he, ⟨p, h1, h2, h3⟩ | ⟨g, h1, h2, h3⟩⟩
  · refine ⟨x, ?_, Int.le_refl _⟩
    unfold held at h3
    by_cases hb : behind k.ends x = true
    · rw [if_pos hb] at h3
      have h0 : h = 0 := (Option.some.inj h3).symm
      subst h0
      have hn : look k.row x = none := by
        cases e : look k.row x with
        | none => rfl
        | some u => rw [notBehind ok e] at hb; cases hb
      subst h2
      refine .inr (.inr ⟨?_, p, all_new hn h1, fun z => h4 z.symm⟩)
      unfold ende
      cases hg : k.ends with
      | none => rw [hg] at hb; cases hb
      | some g => rw [hg] at hb; exact hb
    · rw [if_neg hb] at h3
      exact .inr (.inl ⟨j, p, h, h1, h2, h3, h4⟩)
  · cases hg : k.ends with
    | none =>
      refine ⟨x, .inr (.inr ⟨?_, p, all_of (look_of ok.nd h1), h3⟩), Int.le_refl _⟩
      unfold ende
      rw [hg, he]
      exact decide_eq_true h2
    | some g =>
      have hx : x < g := (ok.ends g hg).2.2 _ h1
      exact ⟨min g e, .inl ⟨g, e, hg, he, by omega, rfl⟩, by omega⟩
  · exact ⟨x, .inl ⟨g, e, h1, he, h2, h3⟩, Int.le_refl _⟩
theorem clp_rng {k : Kn} {l : Lt} (ok : k.ok) (lo : l.ok) {x : Int} (h : ClP k l x) : 0 ≤ x ∧ x ≤ 1000 := by
  rcases h with ⟨g, e, h1, h2, h3, h4⟩ | ⟨j, p, h, h1, h2, h3, h4⟩ | ⟨h1, v, h2, h3⟩
  · have := ok.ends g h1
    have := lo.ends e h2
    have := lo.first
    omega
  · have := ok.rng _ (look_mem h3)
    have h5 : 0 ≤ x ∧ x < 1000 := ⟨this.1, this.2.1⟩
    omega
  · rcases all_cases h2 with q | ⟨_, j, hj, e⟩
    · have := ok.rng _ (look_mem q)
      have h5 : 0 ≤ x ∧ x < 1000 := ⟨this.1, this.2.1⟩
      omega
    · have h5 := (List.getElem?_eq_some_iff.mp hj).1
      have h6 := lo.first
      have h7 := lo.top
      omega
theorem mins_eq {k : Kn} {l : Lt} (ok : k.ok) (lo : l.ok) {m n : Int} (hm : BadP k l m) (hm2 : ∀ x, BadP k l x → m ≤ x) (hn : ClP k l n) (hn2 : ∀ x, ClP k l x → n ≤ x) : m = n := by
  obtain ⟨y, hy, h1⟩ := bad_cl ok lo hm
  obtain ⟨z, hz, h2⟩ := cl_bad ok lo hn
  have := hn2 y hy
  have := hm2 z hz
  omega
theorem good_put {k : Kn} {l : Lt} (ok : k.ok) (h : ∀ x, ¬ BadP k l x) : putAll k.row l.first l.row = all k l :=
  putAll_addAll ok.nd fun j p u hp hu => by
    by_cases e : u = p
    · exact e
    · exact absurd (.inl ⟨j, p, u, hp, rfl, held_of ok hu, e⟩) (h _)
theorem keys_all_rng {k : Kn} {l : Lt} (ok : k.ok) (lo : l.ok) {t v : Int} (h : look (all k l) t = some v) : 0 ≤ t ∧ t < 1000 ∧ 0 ≤ v ∧ v ≤ 63 := by
  rcases all_cases h with q | ⟨_, j, hj, e⟩
  · exact ok.rng _ (look_mem q)
  · have h1 := (List.getElem?_eq_some_iff.mp hj).1
    have h2 := lo.rng v (List.mem_of_getElem? hj)
    have h3 := lo.first
    have h4 := lo.top
    omega
theorem nd_all {k : Kn} (l : Lt) (ok : k.ok) : (keys (all k l)).Nodup := nodup_addAll ok.nd
theorem lrn_keys (k : Kn) (l : Lt) : keys (lrn k l).row = (srt (keys (all k l))).filter fun t => !behind (ende k l) t := by
  unfold keys lrn
  rw [List.map_map]
  exact List.map_id _
theorem lrn_ok {k : Kn} {l : Lt} (ok : k.ok) (lo : l.ok) : (lrn k l).ok := by
  have hmem : ∀ q ∈ (lrn k l).row, look (all k l) q.1 = some q.2 ∧ behind (ende k l) q.1 = false := fun q hq => by
    obtain ⟨t, ht, e⟩ := List.mem_map.mp hq
    obtain ⟨h1, h2⟩ := List.mem_filter.mp ht
    obtain ⟨v, hv⟩ := key_look ((srt_perm _).mem_iff.mp h1)
    rw [← e, hv]
    exact ⟨rfl, by simpa using h2⟩
  refine ⟨?_, fun q hq => keys_all_rng ok lo (hmem q hq).1, fun g hg => ?_⟩
  · rw [lrn_keys]
    refine List.Pairwise.filter _ ?_
    have nd : (srt (keys (all k l))).Nodup := (srt_perm _).nodup_iff.mpr (nd_all l ok)
    exact (srt_sorted _).imp₂ (fun a b h1 h2 => by omega) nd
  · have hg2 : ende k l = some g := hg
    refine ⟨?_, ?_, fun q hq => ?_⟩
    · unfold ende at hg2
      cases e : k.ends with
      | some g2 => rw [e] at hg2; cases hg2; exact (ok.ends g e).1
      | none => rw [e] at hg2; have := lo.ends g hg2; have := lo.first; omega
    · unfold ende at hg2
      cases e : k.ends with
      | some g2 => rw [e] at hg2; cases hg2; exact (ok.ends g e).2.1
      | none => rw [e] at hg2; have := lo.ends g hg2; omega
    · have := (hmem q hq).2
      rw [hg2] at this
      have h2 : ¬ g ≤ q.1 := of_decide_eq_false this
      omega
/-! ### letters that say nothing new -/
def Cons (k : Kn) (l : Lt) : Prop := (∀ (j : Nat) p, l.row[j]? = some p → held k (l.first + j) = some p) ∧ (l.ends = none ∨ l.ends = k.ends)
theorem look_lrn {k : Kn} {l : Lt} (ok : k.ok) {t v : Int} (h : look (all k l) t = some v) (hb : behind (ende k l) t = false) (lo : l.ok) : look (lrn k l).row t = some v := by
  refine look_of (lrn_ok ok lo).nd (List.mem_map.mpr ⟨t, List.mem_filter.mpr ⟨(srt_perm _).mem_iff.mpr (look_key h), by simp [hb]⟩, by rw [h]; rfl⟩)
theorem held_lrn {k : Kn} {l : Lt} (ok : k.ok) (lo : l.ok) (good : ∀ x, ¬ BadP k l x) {t h : Int} (hh : held k t = some h) : held (lrn k l) t = some h := by
  unfold held at hh
  have e0 : (lrn k l).ends = ende k l := rfl
  by_cases hb : behind k.ends t = true
  · rw [if_pos hb] at hh
    unfold held
    rw [e0]
    have : behind (ende k l) t = true := by
      unfold ende
      cases hg : k.ends with
      | none => rw [hg] at hb; cases hb
      | some g => rw [hg] at hb; exact hb
    rw [if_pos this]
    exact hh
  · rw [if_neg hb] at hh
    unfold held
    rw [e0]
    by_cases h2 : behind (ende k l) t = true
    · rw [if_pos h2]
      by_cases h0 : h = 0
      · rw [h0]
      · exfalso
        unfold ende at h2
        cases hg : k.ends with
        | some g => rw [hg] at h2 hb; exact hb h2
        | none =>
          rw [hg] at h2
          cases he : l.ends with
          | none => rw [he] at h2; cases h2
          | some e =>
            rw [he] at h2
            exact good t (.inr ⟨e, he, .inl ⟨h, look_mem hh, of_decide_eq_true h2, h0⟩⟩)
    · rw [if_neg h2]
      exact look_lrn ok (all_of hh) (by simpa using h2) lo
theorem cons_keep {k : Kn} {l m : Lt} (ok : k.ok) (lo : l.ok) (good : ∀ x, ¬ BadP k l x) (h : Cons k m) : Cons (lrn k l) m := by
  refine ⟨fun j p hp => held_lrn ok lo good (h.1 j p hp), ?_⟩
  rcases h.2 with e | e
  · exact .inl e
  · cases hg : k.ends with
    | none => exact .inl (by rw [e, hg])
    | some g =>
      right
      rw [e]
      show k.ends = ende k l
      unfold ende
      rw [hg]
theorem cons_new {k : Kn} {l : Lt} (ok : k.ok) (lo : l.ok) (good : ∀ x, ¬ BadP k l x) : Cons (lrn k l) l := by
  refine ⟨fun j p hp => ?_, ?_⟩
  · cases hh : held k (l.first + j) with
    | some h =>
      have e : h = p := by
        by_cases e : h = p
        · exact e
        · exact absurd (.inl ⟨j, p, h, hp, rfl, hh, e⟩) (good _)
      rw [held_lrn ok lo good hh, e]
    | none =>
      unfold held at hh
      by_cases hb : behind k.ends (l.first + j) = true
      · rw [if_pos hb] at hh
        cases hh
      · rw [if_neg hb] at hh
        have h1 := all_new hh hp
        have h2 : behind (ende k l) (l.first + j) = false := by
          unfold ende
          cases hg : k.ends with
          | some g => rw [hg] at hb; simpa using hb
          | none =>
            cases he : l.ends with
            | none => rfl
            | some e =>
              have := (lo.ends e he).1
              have := (List.getElem?_eq_some_iff.mp hp).1
              exact decide_eq_false (by omega)
        unfold held
        rw [show (lrn k l).ends = ende k l from rfl, if_neg (by rw [h2]; exact Bool.false_ne_true)]
        exact look_lrn ok h1 h2 lo
  · cases he : l.ends with
    | none => exact .inl rfl
    | some e =>
      right
      show some e = ende k l
      unfold ende
      cases hg : k.ends with
      | none => exact he.symm
      | some g =>
        by_cases q : g = e
        · rw [q]
        · exact absurd (.inr ⟨e, he, .inr ⟨g, hg, q, rfl⟩⟩) (good (min g e))
theorem cons_good {k : Kn} {l : Lt} (ok : k.ok) (h : Cons k l) : ∀ x, ¬ BadP k l x := by
  rintro x (⟨j, p, v, h1, h2, h3, h4⟩ | ⟨e, he, ⟨p, h1, h2, h3⟩ | ⟨g, h1, h2, h3⟩⟩)
  · rw [h2] at h3
    rw [h.1 j p h1] at h3
    exact h4 (Option.some.inj h3).symm
  · rcases h.2 with q | q
    · rw [q] at he; cases he
    · rw [he] at q
      have : x < e := (ok.ends e q.symm).2.2 _ h1
      omega
  · rcases h.2 with q | q
    · rw [q] at he; cases he
    · rw [he, h1] at q
      exact h2 (Option.some.inj q).symm
theorem filter_eq {α : Type} {p : α → Bool} {l : List α} (h : ∀ x ∈ l, p x = true) : l.filter p = l := List.filter_eq_self.mpr h
theorem cons_same {k : Kn} {l : Lt} (ok : k.ok) (lo : l.ok) (h : Cons k l) : lrn k l = k := by
  have hE : ende k l = k.ends := by
    unfold ende
    cases hg : k.ends with
    | some g => rfl
    | none =>
      rcases h.2 with q | q
      · exact q
      · rw [q, hg]
  have nb : ∀ t, t ∈ keys (all k l) → behind k.ends t = false → look k.row t = look (all k l) t ∧ t ∈ keys k.row := fun t ht hb => by
    obtain ⟨v, hv⟩ := key_look ht
    rcases all_cases hv with q | ⟨q, j, hj, e⟩
    · rw [q, hv]
      exact ⟨rfl, look_key q⟩
    · have := h.1 j v hj
      unfold held at this
      rw [← e, hb, if_neg Bool.false_ne_true, q] at this
      cases this
  have ek : keys (lrn k l).row = keys k.row := by
    refine sorted_eq ?_ (ok.asc.imp fun {a b} z => Int.le_of_lt z) ?_
    · exact (lrn_ok ok lo).asc.imp fun {a b} z => Int.le_of_lt z
    · have nd1 := (lrn_ok ok lo).nd
      have nd2 := ok.nd
      refine (List.perm_ext_iff_of_nodup nd1 nd2).mpr fun t => ?_
      rw [lrn_keys, List.mem_filter, (srt_perm _).mem_iff, hE]
      refine ⟨fun ⟨h1, h2⟩ => (nb t h1 (by simpa using h2)).2, fun ht => ?_⟩
      obtain ⟨v, hv⟩ := key_look ht
      exact ⟨look_key (all_of hv), by simp [notBehind ok hv]⟩
  have er : (lrn k l).row = k.row := by
    have e1 : (lrn k l).row = (keys (lrn k l).row).map fun t => (t, (look (all k l) t).getD 0) := by
      rw [lrn_keys]
      rfl
    rw [e1, ek]
    unfold keys
    rw [List.map_map]
    conv => rhs; rw [← List.map_id k.row]
    refine List.map_congr_left fun q hq => ?_
    have := all_of (l := l) (look_of ok.nd (show (q.1, q.2) ∈ k.row from hq))
    show (q.1, (look (all k l) q.1).getD 0) = q
    rw [this]
    rfl
  have : lrn k l = ⟨(lrn k l).row, (lrn k l).ends⟩ := rfl
  rw [this, er, show (lrn k l).ends = ende k l from rfl, hE]
end K51
set_option maxRecDepth 100000
set_option maxHeartbeats 2000000
/-! The error of a wrong number. -/
namespace K51
open PySem PySem.Spec PyProof.Rows L2 KF KD
structure CF (K : PySem.W.Frag) (C : Addr) : Prop where
  oex : OexC K C
  ini : PySem.W.findIn K (.ref C) "__init__" = some (some (.ref (iAd K)))
  noV : PySem.W.findIn K (.ref C) "value" = some none
  xf : XfC K C
  exc : ExcC K C
  game : PySem.W.exmOne K (.ref C) (.ref (He.ga K "GameError")) = some true
  ve : PySem.W.kitOne K (.ref C) (.type "ValueError") = some true
theorem and2 {a b : Bool} (h : (a && b) = true) : a = true ∧ b = true := Bool.and_eq_true_iff.mp h
section
variable {K : PySem.W.Frag}
theorem cf_of (h : exAll K = true) {x : Str} (hx : x ∈ cs) : CF K (He.ga K x) := by
  obtain ⟨hg, h⟩ := and2 h
  obtain ⟨hc, _⟩ := and2 h
  have hc := List.all_eq_true.mp hc x hx
  obtain ⟨g1, hg⟩ := and2 hg
  obtain ⟨g2, hg⟩ := and2 hg
  obtain ⟨h1, hc⟩ := and2 hc
  obtain ⟨h2, hc⟩ := and2 hc
  obtain ⟨h3, hc⟩ := and2 hc
  obtain ⟨h4, hc⟩ := and2 hc
  obtain ⟨h5, hc⟩ := and2 hc
  obtain ⟨h6, hc⟩ := and2 hc
  obtain ⟨h7, hc⟩ := and2 hc
  obtain ⟨h8, hc⟩ := and2 hc
  obtain ⟨h9, hc⟩ := and2 hc
  obtain ⟨h10, hc⟩ := and2 hc
  obtain ⟨h11, hc⟩ := and2 hc
  obtain ⟨h12, hc⟩ := and2 hc
  obtain ⟨h13, h14⟩ := and2 hc
  exact ⟨⟨okC_ok h1, of_decide_eq_true h2, of_decide_eq_true h3, of_decide_eq_true h4, h5⟩, of_decide_eq_true h6, of_decide_eq_true h7,
    ⟨of_decide_eq_true h8, of_decide_eq_true h9, of_decide_eq_true h3, h10⟩, ⟨of_decide_eq_true h8, of_decide_eq_true h9, of_decide_eq_true h3, h10, of_decide_eq_true h11, of_decide_eq_true g1, of_decide_eq_true g2, of_decide_eq_true h12⟩,
    of_decide_eq_true h13, of_decide_eq_true h14⟩
theorem tI_of (h : exAll K = true) : PySem.W.typeIn K (.ref (iAd K)) = some (.type "function") := by
  obtain ⟨hg, _⟩ := and2 h
  obtain ⟨_, hg⟩ := and2 hg
  obtain ⟨_, hg⟩ := and2 hg
  obtain ⟨g3, _⟩ := and2 hg
  exact of_decide_eq_true g3
theorem vV_of (h : exAll K = true) : PySem.W.findCls K (.type "ValueError") (.type "type") "__init__" = some (.val (.builtin "ValueError.__init__")) := by
  obtain ⟨hg, _⟩ := and2 h
  obtain ⟨_, hg⟩ := and2 hg
  obtain ⟨_, hg⟩ := and2 hg
  obtain ⟨_, g4⟩ := and2 hg
  split at g4
  · rename_i s e
    rw [e, of_decide_eq_true g4]
  · cases g4
theorem kit_of2 (h : exAll K = true) {x y : Str} (hx : x ∈ cs) (hy : y ∈ cs) : PySem.W.kitOne K (.ref (He.ga K x)) (.ref (He.ga K y)) = some (decide (x = y)) := by
  obtain ⟨_, h⟩ := and2 h
  obtain ⟨_, hk⟩ := and2 h
  exact of_decide_eq_true (List.all_eq_true.mp (List.all_eq_true.mp hk x hx) y hy)
end
def spInit (K : PySem.W.Frag) : Sp := fun vs H Q _ => ∃ (a C : Addr) (v : V) (d : PyData), vs = [.ref a, v] ∧ OexC K C ∧ PySem.W.findIn K (.ref C) "value" = some none ∧ H a = some (exo a C none) ∧ Dp K H v d ∧ KQ.RpE d ∧
  ∀ dx, H dx = none → dx ≠ a → Q .non (upd (upd H dx (exd dx [(("value" : Str), v)])) a (exo a C (some dx)))
section
variable {P : Program} {w : World} {K : PySem.W.Frag} {mg : Str → Option Value} {base : Heap}
theorem scI : FnScope ["self", "value"] ["self", "value"] (defScope s_GameError_init) := ⟨rfl, rfl, rfl, by decide +kernel, rfl, by decide +kernel, by decide +kernel⟩
theorem ok_init (T : Txt K w mg) : FnOk P w K mg base CX0 1 (iAd K) (fdAt K (iAd K)) ["self", "value"] (spInit K) := by
  refine T.F_GameError_init.ok scI (fun vs H Q E h => ?_) (fun cdv A outer s H vs Q E hr h => ?_)
  · obtain ⟨a, C, v, d, rfl, _⟩ := h
    rfl
  · obtain ⟨a, C, v, d, rfl, hO, hV, ha, hd, ⟨n, hn, hp⟩, k⟩ := h
    refine ⟨_, PSs.nox (pss_cons (ps_expr (pe_veinit (by rfl) T.n_ValueError (vV_of T.ex) (pa_cons (pv 0) (pa_cons (pe_callB (KQ.call_reprE (by have hu := hr.units; show (A.deeper _).units + 11 < cLine; omega)) (by rfl) T.n_repr PyProof.Rows.Boot.«repr» (pa_cons (pv 1) pa_nil)) pa_nil))))
      (pss_one (ps_ost (pv 0) (pv 1)))), ?_⟩
    refine ⟨_, rfl, _, rfl, n, v, d, hn, rfl, hd, hp, fun t ht => ⟨a, C, [.str t], rfl, (show 1 ≤ 1000 by decide), hO, ha, ?_⟩⟩
    exact ⟨_, rfl, _, rfl, a, C, rfl, hO, hV, .inl ⟨ha, fun dx n ne => k dx n ne⟩⟩
theorem made {C : Addr} (c : CF K C) {H : Hp} {v : V} {d : PyData} {E : XK} (hd : Dp K H v d) (hp : KQ.RpE d) (hn0 : NL d) (k : ∀ dx, H dx = none → E (.ref C) (some dx) (upd H dx (.xd [(("value" : Str), v)]))) (a : Addr) (ha : H a = none) :
    spInit K [.ref a, v] (upd H a (exo a C none)) (fun z H2 => z = .non ∧ ∃ (dx : Addr) (fs : List (Str × V)), H2 a = some (exo a C (some dx)) ∧ H2 dx = some (exd dx fs) ∧ H dx = none ∧ E (.ref C) (some dx) (upd (del H2 a) dx (.xd fs))) (fun _ _ _ => False) := by
  refine ⟨a, C, v, d, rfl, c.oex, c.noV, upd_same, dp_nl (TF.of_new ha) d v hn0 hd, hp, fun dx n ne => ⟨rfl, dx, _, upd_same, by rw [upd_ne ne, upd_same], ?_, ?_⟩⟩
  · rw [upd_ne ne] at n
    exact n
  · have hn : H dx = none := by
      rw [upd_ne ne] at n
      exact n
    have e : upd (del (upd (upd (upd H a (exo a C none)) dx (exd dx [(("value" : Str), v)])) a (exo a C (some dx))) a) dx (.xd [(("value" : Str), v)]) = upd H dx (.xd [(("value" : Str), v)]) := by
      funext b
      by_cases h1 : b = dx
      · rw [h1, upd_same, upd_same]
      · rw [upd_ne h1, upd_ne h1]
        by_cases h2 : b = a
        · rw [h2, del_same, ha]
        · rw [del_ne h2, upd_ne h2, upd_ne h1, upd_ne h2]
    rw [e]
    exact k dx hn
end
end K51
set_option maxRecDepth 100000
set_option maxHeartbeats 2000000
/-! The program's way of learning. -/
namespace K51
open PySem PySem.Spec PyProof.Rows L2 KF KD
def ov : Option Int → V
  | none => .non
  | some n => .int n
/-- what is known, as it stands in the heap -/
def KnH (K : PySem.W.Frag) (H : Hp) (v : V) (k : Kn) : Prop := ∃ (t r : Addr) (ps : List Addr), v = .ref t ∧ SqT K H t [.ref r, ov k.ends] ∧ SqT K H r (ps.map V.ref) ∧ Paired (fun p (e : Int × Int) => SqT K H p [.int e.1, .int e.2]) ps k.row
section
variable {P : Program} {w : World} {K : PySem.W.Frag} {mg : Str → Option Value} {base : Heap}
theorem nf' {b : Bool} (h : b = false) : ¬ b = true := by rw [h]; decide
def spWhole : Sp := fun vs H Q _ => ∃ n : Int, vs = [.int n] ∧ Q (.bl true) H
theorem scWh : FnScope ["told"] ["told"] (defScope s_is_whole) := ⟨rfl, rfl, rfl, by decide +kernel, rfl, by decide +kernel, by decide +kernel⟩
theorem ok_is_whole (T : Txt K w mg) : FnOk P w K mg base CX0 1 (He.fAd K ("is_whole", none)) (fdAt K (He.fAd K ("is_whole", none))) ["told"] spWhole := by
  refine T.F_is_whole.ok scWh (fun vs H Q E h => ?_) (fun cdv A outer s H vs Q E hr h => ?_)
  · obtain ⟨n, rfl, _⟩ := h
    rfl
  · obtain ⟨n, rfl, q⟩ := h
    refine ⟨_, PSs.nox (pss_one (ps_ret (pe_and (pe_callB (r := rIsi K) call_isi (by rfl) T.n_isinstance PyProof.Rows.Boot.«isinstance» (pa_cons (pv 0) (pa_cons (pe_bltn (v := .ty "int") (by rfl) T.n_int PyProof.Rows.Boot.«int» rfl) pa_nil))) (pe_one (pe_not (pe_callB (r := rIsi K) call_isi (by rfl) T.n_isinstance PyProof.Rows.Boot.«isinstance» (pa_cons (pv 0) (pa_cons (pe_bltn (v := .ty "bool") (by rfl) T.n_bool PyProof.Rows.Boot.«bool» rfl) pa_nil)))))))), ?_⟩
    refine ⟨_, rfl, _, _, _, _, _, rfl, .ty "int", .base (.int n), kit_ty (r := true) (by decide +kernel), _, rfl, iteT ?_⟩
    exact ⟨_, rfl, _, _, _, _, _, rfl, .ty "bool", .base (.int n), kit_ty (r := false) (by decide +kernel), _, rfl, q⟩
def spBetween : Sp := fun vs H Q _ => ∃ n lo hi : Int, vs = [.int n, .int lo, .int hi] ∧ lo ≤ n ∧ n ≤ hi ∧ Q (.bl true) H
theorem scBe : FnScope ["told", "low", "high"] ["told", "low", "high"] (defScope s_is_between) := ⟨rfl, rfl, rfl, by decide +kernel, rfl, by decide +kernel, by decide +kernel⟩
theorem ok_is_between (T : Txt K w mg) : FnOk P w K mg base CX0 2 (He.fAd K ("is_between", none)) (fdAt K (He.fAd K ("is_between", none))) ["told", "low", "high"] spBetween := by
  refine T.F_is_between.ok scBe (fun vs H Q E h => ?_) (fun cdv A outer s H vs Q E hr h => ?_)
  · obtain ⟨n, lo, hi, rfl, _⟩ := h
    rfl
  · obtain ⟨n, lo, hi, rfl, h1, h2, q⟩ := h
    refine ⟨_, PSs.nox (pss_one (ps_ret (pe_and (pe_call (ok_is_whole T) (hr.mono (by decide)) (by rfl) T.g_is_whole (T.F_is_whole).kp T.b_is_whole .nil pass0 (pa_cons (pv 0) pa_nil)) (pe_one (pe_chain op_le op_le (pv 1) (pv 0) (pv 2)))))), ?_⟩
    refine ⟨_, rfl, n, rfl, _, rfl, iteT ?_⟩
    refine ⟨_, rfl, _, rfl, _, _, rfl, rfl, _, rfl, ite2 (fun _ => ?_) (fun z => absurd (decide_eq_true h1) z)⟩
    refine ⟨_, rfl, _, _, rfl, rfl, ?_⟩
    show Q (V.bl (decide (n ≤ hi))) H
    rw [decide_eq_true h2]
    exact q
def spPress : Sp := fun vs H Q _ => ∃ n : Int, vs = [.int n] ∧ 0 ≤ n ∧ n ≤ 63 ∧ Q (.bl true) H
theorem scPr : FnScope ["told"] ["told"] (defScope s_is_press) := ⟨rfl, rfl, rfl, by decide +kernel, rfl, by decide +kernel, by decide +kernel⟩
theorem ok_is_press (T : Txt K w mg) : FnOk P w K mg base CX0 3 (He.fAd K ("is_press", none)) (fdAt K (He.fAd K ("is_press", none))) ["told"] spPress := by
  obtain ⟨uM, gM, rM⟩ := T.c_MOST_PRESS
  refine T.F_is_press.ok scPr (fun vs H Q E h => ?_) (fun cdv A outer s H vs Q E hr h => ?_)
  · obtain ⟨n, rfl, _⟩ := h
    rfl
  · obtain ⟨n, rfl, h1, h2, q⟩ := h
    refine ⟨_, PSs.nox (pss_one (ps_ret (pe_call (ok_is_between T) (hr.mono (by decide)) (by rfl) T.g_is_between (T.F_is_between).kp T.b_is_between .nil pass0 (pa_cons (pv 0) (pa_cons pe_int (pa_cons (pe_glob (v := .int 63) (by rfl) gM rM) pa_nil)))))), ?_⟩
    exact ⟨_, rfl, n, 0, 63, rfl, h1, h2, q⟩
def spTick : Sp := fun vs H Q _ => ∃ n : Int, vs = [.int n] ∧ 0 ≤ n ∧ Q (.bl true) H
theorem scTk : FnScope ["told"] ["told"] (defScope s_is_tick) := ⟨rfl, rfl, rfl, by decide +kernel, rfl, by decide +kernel, by decide +kernel⟩
theorem ok_is_tick (T : Txt K w mg) : FnOk P w K mg base CX0 2 (He.fAd K ("_is_tick", none)) (fdAt K (He.fAd K ("_is_tick", none))) ["told"] spTick := by
  refine T.F_is_tick.ok scTk (fun vs H Q E h => ?_) (fun cdv A outer s H vs Q E hr h => ?_)
  · obtain ⟨n, rfl, _⟩ := h
    rfl
  · obtain ⟨n, rfl, h1, q⟩ := h
    refine ⟨_, PSs.nox (pss_one (ps_ret (pe_and (pe_call (ok_is_whole T) (hr.mono (by decide)) (by rfl) T.g_is_whole (T.F_is_whole).kp T.b_is_whole .nil pass0 (pa_cons (pv 0) pa_nil)) (pe_one (pe_cmpR op_ge (pv 0) pe_int (nomark _)))))), ?_⟩
    refine ⟨_, rfl, n, rfl, _, rfl, iteT ?_⟩
    refine ⟨_, rfl, _, _, rfl, rfl, ?_⟩
    show Q (V.bl (decide (n ≥ 0))) H
    rw [decide_eq_true h1]
    exact q
theorem cut1 {ns : List Int} : cutV (ns.map V.int) (some 1) none = (ns.drop 1).map V.int := by
  unfold cutV
  rw [show (1 : Int) = ((1 : Nat) : Int) from rfl, HT.sIx_nat, HT.sIx_none, List.map_drop]
  cases ns with
  | nil => rfl
  | cons n ns =>
    rw [show min 1 (List.map V.int (n :: ns)).length = 1 by simp]
    exact List.take_of_length_le (by simp)
def spAsc (K : PySem.W.Frag) : Sp := fun vs H Q _ => ∃ (a : Addr) (ns : List Int), vs = [.ref a] ∧ SqL K H a (ns.map V.int) ∧ ns.Pairwise (· < ·) ∧ ns.length ≤ 1000 ∧ ∀ H', Same H H' → Q (.bl true) H'
theorem scAs : FnScope ["row", "one", "other"] ["row"] (defScope s_ascends) := ⟨rfl, rfl, rfl, by decide +kernel, rfl, by decide +kernel, by decide +kernel⟩
theorem ok_ascends (T : Txt K w mg) : FnOk P w K mg base CX0 1 (He.fAd K ("ascends", none)) (fdAt K (He.fAd K ("ascends", none))) ["row"] (spAsc K) := by
  refine T.F_ascends.ok scAs (fun vs H Q E h => ?_) (fun cdv A outer s H vs Q E hr h => ?_)
  · obtain ⟨a, ns, rfl, _⟩ := h
    rfl
  · obtain ⟨a, ns, rfl, hs, hp, hl, k⟩ := h
    refine ⟨_, PSs.nox (pss_one (ps_ret (pe_callB (cr_all rfl) (by rfl) T.n_all PyProof.Rows.Boot.«all» (pa_cons (pe_lc (own := [("one", 1), ("other", 2)]) (g := gTup K 2 (gCons (gName 1) (gCons (gName 2) gNil))) (tt := tYes) (by rfl) scAs.nd (pi_zip (by rfl) T.n_zip (pa_cons (pv 0) (pa_cons (pe_slice sl_list (pv 0) (po_some pe_int) po_none) pa_nil))) (blkOk_by (own := [("one", 1), ("other", 2)]) (N := ["row", "one", "other"]) (sc := defScope s_ascends) (by decide +kernel)) (fun _ _ _ _ _ => (pg_tup (by rfl) (pgs_cons (pg_name (i := 1) scAs.nd rfl (Or.inl rfl)) (pgs_cons (pg_name (i := 2) scAs.nd rfl (Or.inl rfl)) pgs_nil)))) (fun _ _ _ _ _ => pts_nil) (fun _ _ _ _ _ => (pe_cmpR op_lt (pv 1) (pv 2) (nomark _)))) pa_nil)))), ?_⟩
    refine ⟨_, rfl, _, rfl, _, rfl, a, _, rfl, hs, fun p np => ?_⟩
    rw [cut1]
    have s1 := new_same (o := .lst ((ns.drop 1).map V.int)) np
    refine ⟨a, p, _, _, rfl, s1.seq hs, SqL.of upd_same, fun D hD => ?_⟩
    have sD := new_same (o := .lst []) hD
    refine lc_it (walk_zip (K := K) (a := a) (b := p) (xs := ns.map V.int) (ys := (ns.drop 1).map V.int) rfl) (fun i H' => Same (upd H p (.lst ((ns.drop 1).map V.int))) H' ∧ H' D = some (.lst ((List.replicate i true).map V.bl))) ⟨sD, upd_same⟩ (fun i H' _ h => ⟨h.1.seq (s1.seq hs), h.1.seq (SqL.of upd_same)⟩) (fun i v H' H2 hi h y => ?_) (fun H' h => ?_)
    · obtain ⟨t, x, y, rfl, nt, rfl, hx, hy⟩ := y
      obtain ⟨sm, hl⟩ := h
      rw [List.length_map, List.length_map, List.length_drop] at hi
      have i1 : i < ns.length := by omega
      have i2 : i + 1 < ns.length := by omega
      replace hx : (ns.map V.int)[i]? = some x := hx
      replace hy : ((ns.drop 1).map V.int)[i]? = some y := hy
      rw [List.getElem?_map, List.getElem?_eq_getElem i1] at hx
      rw [List.getElem?_map, List.getElem?_drop, Nat.add_comm 1 i, List.getElem?_eq_getElem i2] at hy
      cases hx
      cases hy
      have lt : ns[i] < ns[i + 1] := List.pairwise_iff_getElem.mp hp i (i + 1) i1 i2 (by omega)
      refine ⟨t, _, rfl, SqT.of upd_same, rfl, _, _, rfl, _, _, rfl, rfl, ?_⟩
      refine ⟨rfl, ?_⟩
      dsimp only [tYes]
      rw [if_pos rfl]
      refine ⟨_, rfl, _, rfl, _, _, rfl, rfl, ?_⟩
      dsimp only
      rw [decide_eq_true lt]
      have st := new_same (o := .tup [V.int ns[i], V.int ns[i + 1]]) nt
      refine ⟨_, st _ _ hl, by rw [List.length_map, List.length_replicate]; exact Nat.lt_of_lt_of_le (show i < 1000 by omega) (by decide), fun b o z => ?_, ?_⟩
      · rw [upd_ne (ne_of_none z hD)]
        exact st _ _ (sm _ _ z)
      · rw [upd_same, List.replicate_succ', List.map_append]
        rfl
    · refine ⟨D, _, rfl, SqL.of h.2, ?_⟩
      rw [show ∀ n, (List.replicate n true).all id = true by intro n; simp]
      exact k H' (s1.trans h.1)
def spBetweenG : Sp := fun vs H Q _ => ∃ n lo hi : Int, vs = [.int n, .int lo, .int hi] ∧ Q (.bl (decide (lo ≤ n) && decide (n ≤ hi))) H
theorem ok_is_between_g (T : Txt K w mg) : FnOk P w K mg base CX0 2 (He.fAd K ("is_between", none)) (fdAt K (He.fAd K ("is_between", none))) ["told", "low", "high"] spBetweenG := by
  refine T.F_is_between.ok scBe (fun vs H Q E h => ?_) (fun cdv A outer s H vs Q E hr h => ?_)
  · obtain ⟨n, lo, hi, rfl, _⟩ := h
    rfl
  · obtain ⟨n, lo, hi, rfl, q⟩ := h
    refine ⟨_, PSs.nox (pss_one (ps_ret (pe_and (pe_call (ok_is_whole T) (hr.mono (by decide)) (by rfl) T.g_is_whole (T.F_is_whole).kp T.b_is_whole .nil pass0 (pa_cons (pv 0) pa_nil)) (pe_one (pe_chain op_le op_le (pv 1) (pv 0) (pv 2)))))), ?_⟩
    refine ⟨_, rfl, n, rfl, _, rfl, iteT ?_⟩
    refine ⟨_, rfl, _, rfl, _, _, rfl, rfl, _, rfl, ite2 (fun z => ?_) (fun z => ?_)⟩
    · refine ⟨_, rfl, _, _, rfl, rfl, ?_⟩
      rw [z, Bool.true_and] at q
      exact q
    · have z2 : decide (lo ≤ n) = false := by
        cases h : decide (lo ≤ n)
        · rfl
        · exact absurd h z
      rw [z2, Bool.false_and] at q
      exact q
def spPressG : Sp := fun vs H Q _ => ∃ n : Int, vs = [.int n] ∧ Q (.bl (decide (0 ≤ n) && decide (n ≤ 63))) H
theorem ok_is_press_g (T : Txt K w mg) : FnOk P w K mg base CX0 3 (He.fAd K ("is_press", none)) (fdAt K (He.fAd K ("is_press", none))) ["told"] spPressG := by
  obtain ⟨uM, gM, rM⟩ := T.c_MOST_PRESS
  refine T.F_is_press.ok scPr (fun vs H Q E h => ?_) (fun cdv A outer s H vs Q E hr h => ?_)
  · obtain ⟨n, rfl, _⟩ := h
    rfl
  · obtain ⟨n, rfl, q⟩ := h
    refine ⟨_, PSs.nox (pss_one (ps_ret (pe_call (ok_is_between_g T) (hr.mono (by decide)) (by rfl) T.g_is_between (T.F_is_between).kp T.b_is_between .nil pass0 (pa_cons (pv 0) (pa_cons pe_int (pa_cons (pe_glob (v := .int 63) (by rfl) gM rM) pa_nil)))))), ?_⟩
    exact ⟨_, rfl, n, 0, 63, rfl, q⟩
def spMade (K : PySem.W.Frag) : Sp := fun vs H Q _ => ∃ (p : Addr) (t v : Int) (e : Option Int), vs = [.ref p, ov e] ∧ SqT K H p [.int t, .int v] ∧ 0 ≤ t ∧ 0 ≤ v ∧ v ≤ 63 ∧ behind e t = false ∧ Q (.bl true) H
theorem scMd : FnScope ["made", "ends"] ["made", "ends"] (defScope s_is_made) := ⟨rfl, rfl, rfl, by decide +kernel, rfl, by decide +kernel, by decide +kernel⟩
theorem ok_is_made (T : Txt K w mg) : FnOk P w K mg base CX0 4 (He.fAd K ("_is_made", none)) (fdAt K (He.fAd K ("_is_made", none))) ["made", "ends"] (spMade K) := by
  refine T.F_is_made.ok scMd (fun vs H Q E h => ?_) (fun cdv A outer s H vs Q E hr h => ?_)
  · obtain ⟨p, t, v, e, rfl, _⟩ := h
    rfl
  · obtain ⟨p, t, v, e, rfl, sq, h0, h1, h2, hb, q⟩ := h
    refine ⟨_, PSs.nox (pss_cons (ps_if (PW.pt (pw_or (pt_not (pt_val (pe_callB (r := rIsi K) call_isi (by rfl) T.n_isinstance PyProof.Rows.Boot.«isinstance» (pa_cons (pv 0) (pa_cons (pe_bltn (v := .ty "tuple") (by rfl) T.n_tuple PyProof.Rows.Boot.«tuple» rfl) pa_nil))))) (pw_or (pt_cmpR op_ne (pe_callB (r := Evl.rLenS K) call_len_seq (by rfl) T.n_len PyProof.Rows.Boot.«len» (pa_cons (pv 0) pa_nil)) pe_int (nomark _)) (pw_or1 (pt_not (pt_val (pe_call (ok_is_tick T) (hr.mono (by decide)) (by rfl) T.g_is_tick (T.F_is_tick).kp T.b_is_tick .nil pass0 (pa_cons (pe_ix (r := rIxT K) ix_tup (pv 0) pe_int (fun _ _ => rfl)) pa_nil)))))))) (pss_one (ps_ret pe_bl)) pss_nil)
      (pss_one (ps_ret (pe_and (pe_call (ok_is_press T) (hr.mono (by decide)) (by rfl) T.g_is_press (T.F_is_press).kp T.b_is_press .nil pass0 (pa_cons (pe_ix (r := rIxT K) ix_tup (pv 0) pe_int (fun _ _ => rfl)) pa_nil)) (pe_one (pe_or (pe_cmpR op_isN (pv 1) pe_non (nomark _)) (pe_one (pe_cmpR op_lt (pe_ix (r := rIxT K) ix_tup (pv 0) pe_int (fun _ _ => rfl)) (pv 1) (nomark _))))))))), ?_⟩
    refine ⟨_, rfl, _, _, _, _, _, rfl, .ty "tuple", ty_tup sq, kit_ty (r := true) (by decide +kernel), _, rfl, iteF ?_⟩
    refine ⟨_, rfl, _, _, rfl, .inr sq, rfl, _, rfl, iteNS rfl ?_⟩
    refine ⟨_, rfl, p, _, _, _, rfl, rfl, sq, atI_nat (j := 0) rfl, t, rfl, h0, true, rfl, iteF ?_⟩
    refine ⟨_, rfl, p, _, _, _, rfl, rfl, sq, atI_nat (j := 1) rfl, v, rfl, h1, h2, _, rfl, iteT ?_⟩
    cases e with
    | none => exact ⟨_, rfl, rfl, _, rfl, iteT q⟩
    | some g =>
      refine ⟨_, rfl, rfl, _, rfl, iteF ⟨_, rfl, p, _, _, _, rfl, rfl, sq, atI_nat (j := 0) rfl, _, rfl, _, _, rfl, rfl, ?_⟩⟩
      have hg : t < g := by
        have : ¬ g ≤ t := of_decide_eq_false hb
        omega
      show Q (V.bl (decide (t < g))) H
      rw [decide_eq_true hg]
      exact q
theorem paired_at {α β : Type} {F : α → β → Prop} : ∀ {l : List α} {m : List β} {i : Nat} {x : α}, Paired F l m → l[i]? = some x → ∃ y, m[i]? = some y ∧ F x y
  | _, _, _, _, .nil, h => by cases h
  | _, _, 0, _, .cons a _, h => by cases h; exact ⟨_, rfl, a⟩
  | _ :: _, _ :: _, i + 1, _, .cons _ t, h => by
    obtain ⟨y, e, r⟩ := paired_at (i := i) t (by simpa using h)
    exact ⟨y, by simpa using e, r⟩
theorem ends_test {i : Nat} {e : Option Int} {σ : L2.St} {H : Hp} {F : Bool → Hp → Prop} (hv : σ[i]? = some (some (ov e))) (he : ∀ g, e = some g → 0 ≤ g) (h : F false H) :
    (tNot (tOr (tTest (tOp (fun x y H Q => y = V.non ∧ Q (V.bl (decide (x = V.non))) H) (tVar i) (tC V.non))) (tB (tCall spTick [] E0 (tCons (tVar i) tNil))))) σ H F := by
  cases e with
  | none => exact ⟨_, hv, rfl, _, rfl, iteT h⟩
  | some g => exact ⟨_, hv, rfl, _, rfl, iteF ⟨_, hv, g, rfl, he g rfl, _, rfl, h⟩⟩
def mkOk (e : Option Int) (q : Int × Int) : Bool := decide (0 ≤ q.1) && ((decide (0 ≤ q.2) && decide (q.2 ≤ 63)) && match e with
  | none => true
  | some g => decide (q.1 < g))
def spMadeG (K : PySem.W.Frag) : Sp := fun vs H Q _ => ∃ (p : Addr) (t v : Int) (e : Option Int), vs = [.ref p, ov e] ∧ SqT K H p [.int t, .int v] ∧ Q (.bl (mkOk e (t, v))) H
theorem ok_is_tick_g (T : Txt K w mg) : FnOk P w K mg base CX0 2 (He.fAd K ("_is_tick", none)) (fdAt K (He.fAd K ("_is_tick", none))) ["told"] (fun vs H Q _ => ∃ n : Int, vs = [.int n] ∧ Q (.bl (decide (0 ≤ n))) H) := by
  refine T.F_is_tick.ok scTk (fun vs H Q E h => ?_) (fun cdv A outer s H vs Q E hr h => ?_)
  · obtain ⟨n, rfl, _⟩ := h
    rfl
  · obtain ⟨n, rfl, q⟩ := h
    refine ⟨_, PSs.nox (pss_one (ps_ret (pe_and (pe_call (ok_is_whole T) (hr.mono (by decide)) (by rfl) T.g_is_whole (T.F_is_whole).kp T.b_is_whole .nil pass0 (pa_cons (pv 0) pa_nil)) (pe_one (pe_cmpR op_ge (pv 0) pe_int (nomark _)))))), ?_⟩
    exact ⟨_, rfl, n, rfl, _, rfl, iteT ⟨_, rfl, _, _, rfl, rfl, q⟩⟩
theorem ok_is_made_g (T : Txt K w mg) : FnOk P w K mg base CX0 4 (He.fAd K ("_is_made", none)) (fdAt K (He.fAd K ("_is_made", none))) ["made", "ends"] (spMadeG K) := by
  refine T.F_is_made.ok scMd (fun vs H Q E h => ?_) (fun cdv A outer s H vs Q E hr h => ?_)
  · obtain ⟨p, t, v, e, rfl, _⟩ := h
    rfl
  · obtain ⟨p, t, v, e, rfl, sq, q⟩ := h
    refine ⟨_, PSs.nox (pss_cons (ps_if (PW.pt (pw_or (pt_not (pt_val (pe_callB (r := rIsi K) call_isi (by rfl) T.n_isinstance PyProof.Rows.Boot.«isinstance» (pa_cons (pv 0) (pa_cons (pe_bltn (v := .ty "tuple") (by rfl) T.n_tuple PyProof.Rows.Boot.«tuple» rfl) pa_nil))))) (pw_or (pt_cmpR op_ne (pe_callB (r := Evl.rLenS K) call_len_seq (by rfl) T.n_len PyProof.Rows.Boot.«len» (pa_cons (pv 0) pa_nil)) pe_int (nomark _)) (pw_or1 (pt_not (pt_val (pe_call (ok_is_tick_g T) (hr.mono (by omega)) (by rfl) T.g_is_tick (T.F_is_tick).kp T.b_is_tick .nil pass0 (pa_cons (pe_ix (r := rIxT K) ix_tup (pv 0) pe_int (fun _ _ => rfl)) pa_nil)))))))) (pss_one (ps_ret pe_bl)) pss_nil)
      (pss_one (ps_ret (pe_and (pe_call (ok_is_press_g T) (hr.mono (by omega)) (by rfl) T.g_is_press (T.F_is_press).kp T.b_is_press .nil pass0 (pa_cons (pe_ix (r := rIxT K) ix_tup (pv 0) pe_int (fun _ _ => rfl)) pa_nil)) (pe_one (pe_or (pe_cmpR op_isN (pv 1) pe_non (nomark _)) (pe_one (pe_cmpR op_lt (pe_ix (r := rIxT K) ix_tup (pv 0) pe_int (fun _ _ => rfl)) (pv 1) (nomark _))))))))), ?_⟩
    have kf : mkOk e (t, v) = false → Q (.bl false) H := fun h => by
      rw [h] at q
      exact q
    refine ⟨_, rfl, _, _, _, _, _, rfl, .ty "tuple", ty_tup sq, kit_ty (r := true) (by decide +kernel), _, rfl, iteF ?_⟩
    refine ⟨_, rfl, _, _, rfl, .inr sq, rfl, _, rfl, iteNS rfl ?_⟩
    refine ⟨_, rfl, p, _, _, _, rfl, rfl, sq, atI_nat (j := 0) rfl, t, rfl, _, rfl, ?_⟩
    cases c1 : decide (0 ≤ t) with
    | false => exact iteT (kf (by unfold mkOk; simp only [c1, Bool.false_and]))
    | true =>
      refine iteF ?_
      refine ⟨_, rfl, p, _, _, _, rfl, rfl, sq, atI_nat (j := 1) rfl, v, rfl, _, rfl, ?_⟩
      cases c2 : (decide (0 ≤ v) && decide (v ≤ 63)) with
      | false => exact iteF (kf (by unfold mkOk; simp only [c1, c2, Bool.false_and, Bool.and_false]))
      | true =>
        refine iteT ?_
        unfold mkOk at q
        simp only [c1, c2, Bool.true_and] at q
        cases e with
        | none => exact ⟨_, rfl, rfl, _, rfl, iteT q⟩
        | some g => exact ⟨_, rfl, rfl, _, rfl, iteF ⟨_, rfl, p, _, _, _, rfl, rfl, sq, atI_nat (j := 0) rfl, _, rfl, _, _, rfl, rfl, q⟩⟩
def spKnown (K : PySem.W.Frag) : Sp := fun vs H Q _ => ∃ (v : V) (k : Kn), vs = [v] ∧ KnH K H v k ∧ k.ok ∧ ∀ H', Same H H' → Q (.bl true) H'
theorem scKn : FnScope ["told", "row", "ends", "made"] ["told"] (defScope s_is_known) := ⟨rfl, rfl, rfl, by decide +kernel, rfl, by decide +kernel, by decide +kernel⟩
theorem ok_is_known (T : Txt K w mg) : FnOk P w K mg base CX0 5 (He.fAd K ("is_known", none)) (fdAt K (He.fAd K ("is_known", none))) ["told"] (spKnown K) := by
  refine T.F_is_known.ok scKn (fun vs H Q E h => ?_) (fun cdv A outer s H vs Q E hr h => ?_)
  · obtain ⟨v, k, rfl, _⟩ := h
    rfl
  · obtain ⟨v, k, rfl, ⟨t, r, ps, rfl, sq, fz, prs⟩, ok, kk⟩ := h
    refine ⟨_, PSs.nox (pss_cons (ps_if (PW.pt (pw_or (pt_not (pt_val (pe_callB (r := rIsi K) call_isi (by rfl) T.n_isinstance PyProof.Rows.Boot.«isinstance» (pa_cons (pv 0) (pa_cons (pe_bltn (v := .ty "tuple") (by rfl) T.n_tuple PyProof.Rows.Boot.«tuple» rfl) pa_nil))))) (pw_or1 (pt_cmpR op_ne (pe_callB (r := Evl.rLenS K) call_len_seq (by rfl) T.n_len PyProof.Rows.Boot.«len» (pa_cons (pv 0) pa_nil)) pe_int (nomark _))))) (pss_one (ps_ret pe_bl)) pss_nil)
      (pss_cons (ps_asg (pv 0) (pg_tup (by rfl) (pgs_cons (pg_name (i := 1) scKn.nd rfl (Or.inl rfl)) (pgs_cons (pg_name (i := 2) scKn.nd rfl (Or.inr rfl)) pgs_nil))))
      (pss_cons (ps_if (PW.pt (pw_or (pt_not (pt_val (pe_callB (r := rIsi K) call_isi (by rfl) T.n_isinstance PyProof.Rows.Boot.«isinstance» (pa_cons (pv 1) (pa_cons (pe_bltn (v := .ty "tuple") (by rfl) T.n_tuple PyProof.Rows.Boot.«tuple» rfl) pa_nil))))) (pw_or1 (pt_not (PW.pt (pw_or (pt_cmpR op_isN (pv 2) pe_non (nomark _)) (pw_or1 (pt_val (pe_call (ok_is_tick T) (hr.mono (by decide)) (by rfl) T.g_is_tick (T.F_is_tick).kp T.b_is_tick .nil pass0 (pa_cons (pv 2) pa_nil)))))))))) (pss_one (ps_ret pe_bl)) pss_nil)
      (pss_one (ps_ret (pe_and (pe_callB (cr_all rfl) (by rfl) T.n_all PyProof.Rows.Boot.«all» (pa_cons (pe_lc (own := [("made", 3)]) (g := gName 3) (tt := tYes) (by rfl) scKn.nd (pi_tup (pv 1)) (blkOk_by (own := [("made", 3)]) (N := ["told", "row", "ends", "made"]) (sc := defScope s_is_known) (by decide +kernel)) (fun _ _ _ _ _ => pg_name (i := 3) scKn.nd rfl (Or.inl rfl)) (fun _ _ _ _ _ => pts_nil) (fun _ _ _ _ _ => (pe_call (ok_is_made T) (hr.mono (by decide)) (by rfl) T.g_is_made (T.F_is_made).kp T.b_is_made .nil pass0 (pa_cons (pv 3) (pa_cons (pv 2) pa_nil))))) pa_nil)) (pe_one (pe_call (ok_ascends T) (hr.mono (by decide)) (by rfl) T.g_ascends (T.F_ascends).kp T.b_ascends .nil pass0 (pa_cons (pe_lc (own := [("made", 3)]) (g := gName 3) (tt := tYes) (by rfl) scKn.nd (pi_tup (pv 1)) (blkOk_by (own := [("made", 3)]) (N := ["told", "row", "ends", "made"]) (sc := defScope s_is_known) (by decide +kernel)) (fun _ _ _ _ _ => pg_name (i := 3) scKn.nd rfl (Or.inl rfl)) (fun _ _ _ _ _ => pts_nil) (fun _ _ _ _ _ => (pe_ix (r := rIxT K) ix_tup (pv 3) pe_int (fun _ _ => rfl)))) pa_nil))))))))), ?_⟩
    refine ⟨_, rfl, _, _, _, _, _, rfl, .ty "tuple", ty_tup sq, kit_ty (r := true) (by decide +kernel), _, rfl, iteF ?_⟩
    refine ⟨_, rfl, _, _, rfl, .inr sq, rfl, _, rfl, iteNS rfl ?_⟩
    refine ⟨_, rfl, t, _, rfl, sq, rfl, _, _, rfl, _, _, rfl, rfl, ?_⟩
    refine ⟨_, rfl, _, _, _, _, _, rfl, .ty "tuple", ty_tup fz, kit_ty (r := true) (by decide +kernel), _, rfl, iteF ?_⟩
    refine ends_test (e := k.ends) rfl (fun g hg => (ok.ends g hg).1) (iteF ?_)
    refine ⟨_, rfl, r, rfl, ⟨_, fz⟩, fun D hD => ?_⟩
    have hl := Paired.length prs
    have hk := ok.len
    have sD := new_same (o := .lst []) hD
    refine lc_tup (xs := ps.map V.ref) (fun i H' => Same H H' ∧ H' D = some (.lst ((List.replicate i true).map V.bl))) ⟨sD, upd_same⟩ (fun i H' _ h => (same_tf h.1).sq fz) (fun i x H' hx h => ?_) (fun H' h => ?_)
    · obtain ⟨sm, hacc⟩ := h
      rw [List.getElem?_map] at hx
      cases hp : ps[i]? with
      | none => rw [hp] at hx; cases hx
      | some p =>
        rw [hp] at hx
        cases hx
        obtain ⟨e, he, hq⟩ := paired_at prs hp
        have hi := (List.getElem?_eq_some_iff.mp he).1
        have hm := List.mem_of_getElem? he
        have rg := ok.rng e hm
        have nb : behind k.ends e.1 = false := notBehind ok (look_of ok.nd (show (e.1, e.2) ∈ k.row from hm))
        refine ⟨rfl, ?_⟩
        dsimp only [tYes]
        rw [if_pos rfl]
        refine ⟨_, rfl, _, rfl, p, e.1, e.2, k.ends, rfl, (same_tf sm).sq hq, rg.1, rg.2.2.1, rg.2.2.2, nb, ?_⟩
        refine ⟨_, hacc, by rw [List.length_map, List.length_replicate]; exact Nat.lt_of_lt_of_le (show i < 1001 by omega) (by decide), fun b o z => ?_, ?_⟩
        · rw [upd_ne (ne_of_none z hD)]
          exact sm _ _ z
        · rw [upd_same, List.replicate_succ', List.map_append]
          rfl
    refine ⟨D, _, rfl, SqL.of h.2, ?_⟩
    rw [show ∀ n, (List.replicate n true).all id = true by intro n; simp]
    refine ⟨_, rfl, iteT ?_⟩
    have s1 := h.1
    refine ⟨_, rfl, r, rfl, ⟨_, (same_tf s1).sq fz⟩, fun D2 hD2 => ?_⟩
    refine lc_tup (xs := ps.map V.ref) (fun i H2 => Same H' H2 ∧ H2 D2 = some (.lst (((keys k.row).take i).map V.int))) ⟨new_same hD2, upd_same⟩ (fun i H2 _ h => (same_tf (s1.trans h.1)).sq fz) (fun i x H2 hx h => ?_) (fun H2 h => ?_)
    · obtain ⟨sm, hacc⟩ := h
      rw [List.getElem?_map] at hx
      cases hp : ps[i]? with
      | none => rw [hp] at hx; cases hx
      | some p =>
        rw [hp] at hx
        cases hx
        obtain ⟨e, he, hq⟩ := paired_at prs hp
        have hi := (List.getElem?_eq_some_iff.mp he).1
        refine ⟨rfl, ?_⟩
        dsimp only [tYes]
        rw [if_pos rfl]
        refine ⟨_, rfl, p, _, _, _, rfl, rfl, (same_tf (s1.trans sm)).sq hq, atI_nat (j := 0) rfl, ?_⟩
        have hke : (keys k.row)[i]? = some e.1 := by
          unfold keys
          rw [List.getElem?_map, he]
          rfl
        refine ⟨_, hacc, by rw [List.length_map, List.length_take]; exact Nat.lt_of_lt_of_le (show min i (keys k.row).length < 1001 by omega) (by decide), fun b o z => ?_, ?_⟩
        · rw [upd_ne (ne_of_none z hD2)]
          exact sm _ _ z
        · rw [upd_same, List.take_add_one, hke, List.map_append]
          rfl
    have hlk : (keys k.row).length = k.row.length := List.length_map _
    have hfin : (keys k.row).take (ps.map V.ref).length = keys k.row := List.take_of_length_le (by rw [List.length_map, hlk, hl]; exact Nat.le_refl _)
    have h2 := h.2
    rw [hfin] at h2
    exact ⟨D2, keys k.row, rfl, SqL.of h2, ok.asc, by rw [hlk]; exact hk, fun H3 s3 => kk H3 ((s1.trans h.1).trans s3)⟩
def spKnownN (K : PySem.W.Frag) : Sp := fun vs H Q _ => ∃ (v : V) (k : Kn), vs = [v] ∧ KnH K H v k ∧ (∀ g, k.ends = some g → 0 ≤ g) ∧ k.row.all (mkOk k.ends) = false ∧ k.row.length ≤ 1000 ∧ ∀ H', Same H H' → Q (.bl false) H'
theorem ok_is_known_n (T : Txt K w mg) : FnOk P w K mg base CX0 5 (He.fAd K ("is_known", none)) (fdAt K (He.fAd K ("is_known", none))) ["told"] (spKnownN K) := by
  refine T.F_is_known.ok scKn (fun vs H Q E h => ?_) (fun cdv A outer s H vs Q E hr h => ?_)
  · obtain ⟨v, k, rfl, _⟩ := h
    rfl
  · obtain ⟨v, k, rfl, ⟨t, r, ps, rfl, sq, fz, prs⟩, he, hbad, hkl, kk⟩ := h
    refine ⟨_, PSs.nox (pss_cons (ps_if (PW.pt (pw_or (pt_not (pt_val (pe_callB (r := rIsi K) call_isi (by rfl) T.n_isinstance PyProof.Rows.Boot.«isinstance» (pa_cons (pv 0) (pa_cons (pe_bltn (v := .ty "tuple") (by rfl) T.n_tuple PyProof.Rows.Boot.«tuple» rfl) pa_nil))))) (pw_or1 (pt_cmpR op_ne (pe_callB (r := Evl.rLenS K) call_len_seq (by rfl) T.n_len PyProof.Rows.Boot.«len» (pa_cons (pv 0) pa_nil)) pe_int (nomark _))))) (pss_one (ps_ret pe_bl)) pss_nil)
      (pss_cons (ps_asg (pv 0) (pg_tup (by rfl) (pgs_cons (pg_name (i := 1) scKn.nd rfl (Or.inl rfl)) (pgs_cons (pg_name (i := 2) scKn.nd rfl (Or.inr rfl)) pgs_nil))))
      (pss_cons (ps_if (PW.pt (pw_or (pt_not (pt_val (pe_callB (r := rIsi K) call_isi (by rfl) T.n_isinstance PyProof.Rows.Boot.«isinstance» (pa_cons (pv 1) (pa_cons (pe_bltn (v := .ty "tuple") (by rfl) T.n_tuple PyProof.Rows.Boot.«tuple» rfl) pa_nil))))) (pw_or1 (pt_not (PW.pt (pw_or (pt_cmpR op_isN (pv 2) pe_non (nomark _)) (pw_or1 (pt_val (pe_call (ok_is_tick T) (hr.mono (by decide)) (by rfl) T.g_is_tick (T.F_is_tick).kp T.b_is_tick .nil pass0 (pa_cons (pv 2) pa_nil)))))))))) (pss_one (ps_ret pe_bl)) pss_nil)
      (pss_one (ps_ret (pe_and (pe_callB (cr_all rfl) (by rfl) T.n_all PyProof.Rows.Boot.«all» (pa_cons (pe_lc (own := [("made", 3)]) (g := gName 3) (tt := tYes) (by rfl) scKn.nd (pi_tup (pv 1)) (blkOk_by (own := [("made", 3)]) (N := ["told", "row", "ends", "made"]) (sc := defScope s_is_known) (by decide +kernel)) (fun _ _ _ _ _ => pg_name (i := 3) scKn.nd rfl (Or.inl rfl)) (fun _ _ _ _ _ => pts_nil) (fun _ _ _ _ _ => (pe_call (ok_is_made_g T) (hr.mono (by decide)) (by rfl) T.g_is_made (T.F_is_made).kp T.b_is_made .nil pass0 (pa_cons (pv 3) (pa_cons (pv 2) pa_nil))))) pa_nil)) (pe_one (pe_call (ok_ascends T) (hr.mono (by decide)) (by rfl) T.g_ascends (T.F_ascends).kp T.b_ascends .nil pass0 (pa_cons (pe_lc (own := [("made", 3)]) (g := gName 3) (tt := tYes) (by rfl) scKn.nd (pi_tup (pv 1)) (blkOk_by (own := [("made", 3)]) (N := ["told", "row", "ends", "made"]) (sc := defScope s_is_known) (by decide +kernel)) (fun _ _ _ _ _ => pg_name (i := 3) scKn.nd rfl (Or.inl rfl)) (fun _ _ _ _ _ => pts_nil) (fun _ _ _ _ _ => (pe_ix (r := rIxT K) ix_tup (pv 3) pe_int (fun _ _ => rfl)))) pa_nil))))))))), ?_⟩
    refine ⟨_, rfl, _, _, _, _, _, rfl, .ty "tuple", ty_tup sq, kit_ty (r := true) (by decide +kernel), _, rfl, iteF ?_⟩
    refine ⟨_, rfl, _, _, rfl, .inr sq, rfl, _, rfl, iteNS rfl ?_⟩
    refine ⟨_, rfl, t, _, rfl, sq, rfl, _, _, rfl, _, _, rfl, rfl, ?_⟩
    refine ⟨_, rfl, _, _, _, _, _, rfl, .ty "tuple", ty_tup fz, kit_ty (r := true) (by decide +kernel), _, rfl, iteF ?_⟩
    refine ends_test (e := k.ends) rfl he (iteF ?_)
    refine ⟨_, rfl, r, rfl, ⟨_, fz⟩, fun D hD => ?_⟩
    have hl := Paired.length prs
    have sD := new_same (o := .lst []) hD
    refine lc_tup (xs := ps.map V.ref) (fun i H' => Same H H' ∧ H' D = some (.lst (((k.row.take i).map (mkOk k.ends)).map V.bl))) ⟨sD, upd_same⟩ (fun i H' _ h => (same_tf h.1).sq fz) (fun i x H' hx h => ?_) (fun H' h => ?_)
    · obtain ⟨sm, hacc⟩ := h
      rw [List.getElem?_map] at hx
      cases hp : ps[i]? with
      | none => rw [hp] at hx; cases hx
      | some p =>
        rw [hp] at hx
        cases hx
        obtain ⟨e, he2, hq⟩ := paired_at prs hp
        have hi := (List.getElem?_eq_some_iff.mp he2).1
        refine ⟨rfl, ?_⟩
        dsimp only [tYes]
        rw [if_pos rfl]
        refine ⟨_, rfl, _, rfl, p, e.1, e.2, k.ends, rfl, (same_tf sm).sq hq, ?_⟩
        refine ⟨_, hacc, by rw [List.length_map, List.length_map, List.length_take]; exact Nat.lt_of_lt_of_le (show min i k.row.length < 1001 by omega) (by decide), fun b o z => ?_, ?_⟩
        · rw [upd_ne (ne_of_none z hD)]
          exact sm _ _ z
        · rw [upd_same, List.take_add_one, he2, List.map_append, List.map_append]
          rfl
    obtain ⟨s1, hacc⟩ := h
    have hfull : k.row.take (ps.map V.ref).length = k.row := List.take_of_length_le (by rw [List.length_map, hl]; exact Nat.le_refl _)
    rw [hfull] at hacc
    refine ⟨D, _, rfl, SqL.of hacc, ?_⟩
    have e : (k.row.map (mkOk k.ends)).all id = false := by
      rw [List.all_map]
      exact hbad
    rw [e]
    exact ⟨_, rfl, iteF (kk H' s1)⟩
end
end K51
set_option maxRecDepth 100000
set_option maxHeartbeats 4000000
/-! Letters of what is known. -/
namespace K51
open PySem PySem.Spec PyProof.Rows L2 KF KD
abbrev Kd := Int × Int
def dk (r : Rw) : List (Key × V) := r.map fun e => (Sum.inl e.1, V.int e.2)
theorem dk_val (r : Rw) (t : Int) : valV (dk r) (.inl t) = (look r t).map V.int := by
  unfold valV dk look
  rw [List.find?_map]
  have : ((fun kv : Key × V => decide (kv.1 = Sum.inl t)) ∘ fun e : Int × Int => ((Sum.inl e.1 : Key), V.int e.2)) = fun e : Int × Int => decide (e.1 = t) := by
    funext e
    show decide ((Sum.inl e.1 : Key) = Sum.inl t) = decide (e.1 = t)
    by_cases h : e.1 = t
    · rw [decide_eq_true h, decide_eq_true (by rw [h])]
    · rw [decide_eq_false h, decide_eq_false (fun z => h (Sum.inl.inj z))]
  rw [this]
  cases r.find? fun e => decide (e.1 = t) <;> rfl
theorem dk_put (r : Rw) (t v : Int) : putK (dk r) (.inl t) (.int v) = dk (putr r t v) := by
  have ha : ((dk r).any fun kv => decide (kv.1 = (Sum.inl t : Key))) = r.any fun e => decide (e.1 = t) := by
    unfold dk
    rw [List.any_map]
    congr 1
    funext e
    show decide ((Sum.inl e.1 : Key) = Sum.inl t) = decide (e.1 = t)
    by_cases h : e.1 = t
    · rw [decide_eq_true h, decide_eq_true (by rw [h])]
    · rw [decide_eq_false h, decide_eq_false (fun z => h (Sum.inl.inj z))]
  unfold putK putr
  rw [ha]
  split
  · unfold dk
    rw [List.map_map, List.map_map]
    refine List.map_congr_left fun e _ => ?_
    show (if (Sum.inl e.1 : Key) = Sum.inl t then ((Sum.inl e.1 : Key), V.int v) else (Sum.inl e.1, V.int e.2)) = _
    by_cases h : e.1 = t
    · rw [if_pos (by rw [h])]
      show _ = ((Sum.inl (if e.1 = t then (e.1, v) else e).1 : Key), V.int (if e.1 = t then (e.1, v) else e).2)
      rw [if_pos h]
    · rw [if_neg (fun z => h (Sum.inl.inj z))]
      show _ = ((Sum.inl (if e.1 = t then (e.1, v) else e).1 : Key), V.int (if e.1 = t then (e.1, v) else e).2)
      rw [if_neg h]
  · unfold dk
    rw [List.map_append]
    rfl
theorem put_new {r : Rw} {t v : Int} (h : look r t = none) : putr r t v = r ++ [(t, v)] := by
  unfold putr
  rw [if_neg (by
    rw [List.any_eq_true]
    rintro ⟨q, hq, hd⟩
    exact look_none h (List.mem_map.mpr ⟨q, hq, of_decide_eq_true hd⟩))]
theorem dk_len (r : Rw) : (dk r).length = r.length := List.length_map _
theorem dk_keys (r : Rw) : (dk r).map (·.1) = (keys r).map Sum.inl := by
  unfold dk keys
  rw [List.map_map, List.map_map]
  rfl
theorem paired_app {α β : Type} {F : α → β → Prop} : ∀ {l1 : List α} {m1 : List β} {l2 : List α} {m2 : List β}, Paired F l1 m1 → Paired F l2 m2 → Paired F (l1 ++ l2) (m1 ++ m2)
  | [], [], _, _, .nil, h => h
  | _ :: _, _ :: _, _, _, .cons a t, h => .cons a (paired_app t h)
theorem TF.of_lst {H : Hp} {p : Addr} {o : HO} {xs : List V} (h : H p = some (.lst xs)) : TF H (upd H p o) := fun c ys z => by
  rcases z with z | ⟨u, z⟩
  · exact .inl (by rw [upd_ne (fun q => by rw [q, h] at z; cases z)]; exact z)
  · exact .inr ⟨u, by rw [upd_ne (fun q => by rw [q, h] at z; cases z)]; exact z⟩
theorem dk_at {r : Rw} {i : Nat} {y : Key} {v : V} (h : (dk r)[i]? = some (y, v)) : ∃ a : Int × Int, r[i]? = some a ∧ y = .inl a.1 ∧ v = .int a.2 := by
  unfold dk at h
  rw [List.getElem?_map] at h
  cases e : r[i]? with
  | none => rw [e] at h; cases h
  | some a =>
    rw [e] at h
    cases h
    exact ⟨a, rfl, rfl, rfl⟩
theorem seq_cut {a b : TS} {D : Ends} {σ : L2.St} {H : Hp} (Pv : L2.St → Hp → Prop) (hb : ∀ σ' H', Pv σ' H' → b D σ' H') (ha : ∀ R : L2.St → Hp → Prop, (∀ σ' H', Pv σ' H' → R σ' H') → a { D with nx := R } σ H) : tSeq a b D σ H := ha _ hb
theorem dec_ov (e : Option Int) (x : Int) : decide (ov e = V.int x) = decide (e = some x) := by
  cases e with
  | none => rfl
  | some g =>
    show decide (V.int g = V.int x) = _
    rw [dec_int]
    by_cases h : g = x
    · simp [h]
    · simp [h]
theorem scal_ov (e : Option Int) (x : Int) : scal (ov e) (.int x) = true := by cases e <;> rfl
structure Le where
  house : Int
  first : Int
  row : List Int
  ends : Option Int
  heard : List Int
def LeH (K : PySem.W.Frag) (H : Hp) (v : V) (l : Le) : Prop := ∃ t r h : Addr, v = .ref t ∧ SqT K H t [.int l.house, .int l.first, .ref r, ov l.ends, .ref h] ∧ SqT K H r (l.row.map V.int) ∧ SqT K H h (l.heard.map V.int)
theorem LeH.tf {K : PySem.W.Frag} {H H' : Hp} {v : V} {l : Le} (e : TF H H') (h : LeH K H v l) : LeH K H' v l := by
  obtain ⟨t, r, g, e1, e2, e3, e4⟩ := h
  exact ⟨t, r, g, e1, e.sq e2, e.sq e3, e.sq e4⟩
def rrun (r : Rw) (f : Int) : Nat → List Int
  | 0 => []
  | n + 1 => match look r f with
    | some v => v :: rrun r (f + 1) n
    | none => []
theorem rr_none {r : Rw} {f : Int} {n : Nat} (h : look r f = none ∨ n = 0) : rrun r f n = [] := by
  cases n with
  | zero => rfl
  | succ n =>
    rcases h with h | h
    · unfold rrun
      rw [h]
    · cases h
theorem rr_some {r : Rw} {f v : Int} {n : Nat} (h : look r f = some v) : rrun r f (n + 1) = v :: rrun r (f + 1) n := by
  conv => lhs; unfold rrun
  rw [h]
theorem rr_len (r : Rw) (f : Int) (n : Nat) : (rrun r f n).length ≤ n := by
  induction n generalizing f with
  | zero => exact Nat.le_refl _
  | succ n ih =>
    cases h : look r f with
    | none => rw [rr_none (.inl h)]; exact Nat.zero_le _
    | some v =>
      rw [rr_some h, List.length_cons]
      exact Nat.succ_le_succ (ih _)
theorem rr_mem {r : Rw} {f : Int} {n : Nat} {p : Int} (h : p ∈ rrun r f n) : ∃ t, (t, p) ∈ r := by
  induction n generalizing f with
  | zero => cases h
  | succ n ih =>
    cases e : look r f with
    | none => rw [rr_none (.inl e)] at h; cases h
    | some v =>
      rw [rr_some e] at h
      rcases List.mem_cons.mp h with h | h
      · rw [h]
        exact ⟨_, look_mem e⟩
      · exact ih h
/-- so far, and what comes -/
def Sof (r : Rw) (f : Int) (ns : List Int) : Prop := ns.length ≤ 32 ∧ ns ++ rrun r (f + ns.length) (32 - ns.length) = rrun r f 32
theorem sof_0 (r : Rw) (f : Int) : Sof r f [] := ⟨Nat.zero_le _, by simp⟩
theorem sof_next {r : Rw} {f v : Int} {ns : List Int} (h : Sof r f ns) (hl : ns.length < 32) (hv : look r (f + ns.length) = some v) : Sof r f (ns ++ [v]) := by
  refine ⟨by rw [List.length_append, List.length_singleton]; omega, ?_⟩
  rw [← h.2]
  have e : 32 - ns.length = (31 - ns.length) + 1 := by omega
  rw [e, rr_some hv, List.length_append, List.length_singleton, List.append_assoc]
  have e2 : f + ((ns.length + 1 : Nat) : Int) = f + (ns.length : Int) + 1 := by omega
  have e3 : 32 - (ns.length + 1) = 31 - ns.length := by omega
  rw [e2, e3]
  rfl
theorem sof_end {r : Rw} {f : Int} {ns : List Int} (h : Sof r f ns) (he : look r (f + ns.length) = none ∨ ns.length = 32) : ns = rrun r f 32 := by
  rw [← h.2, rr_none (he.imp id fun h => by omega), List.append_nil]
def theL (k : Kn) (house first : Int) (heard : List Int) : Le := ⟨house, first, rrun k.row first 32, if k.ends = some (first + ((rrun k.row first 32).length : Nat)) then k.ends else none, heard⟩
section
variable {P : Program} {w : World} {K : PySem.W.Frag} {mg : Str → Option Value} {base : Heap}
theorem KnH.tF {H H' : Hp} {v : V} {k : Kn} (e : TF H H') (h : KnH K H v k) : KnH K H' v k := by
  obtain ⟨t, r, ps, e1, sq, fz, prs⟩ := h
  exact ⟨t, r, ps, e1, e.sq sq, e.sq fz, L2.Paired.mapP prs fun _ _ z => e.sq z⟩
theorem KnH.tf {H H' : Hp} {v : V} {k : Kn} (s : Same H H') (h : KnH K H v k) : KnH K H' v k := h.tF (same_tf s)
theorem look_dk {H : Hp} {D : Addr} {r : Rw} {t : Int} (h : Rd H D (.dK (dk r))) : DGet H D (.int t) ((look r t).map V.int) := .inl ⟨dk r, .inl t, h, rfl, (dk_val r t).symm⟩
def spLo (K : PySem.W.Frag) : Sp := fun vs H Q _ => ∃ (house first : Int) (v : V) (h : Addr) (k : Kn) (hs : List Int), vs = [.int house, v, .int first, .ref h] ∧ KnH K H v k ∧ k.ok ∧ SqT K H h (hs.map V.int) ∧ ∀ u H', Same H H' → LeH K H' u (theL k house first hs) → Q u H'
theorem scLo : FnScope ["house", "known", "first", "heard", "presses", "tick", "press", "row", "ends"] ["house", "known", "first", "heard"] (defScope s_letter_of) := ⟨rfl, rfl, rfl, by decide +kernel, rfl, by decide +kernel, by decide +kernel⟩
theorem ok_letter_of (T : Txt K w mg) : FnOk P w K mg base CX0 1 (He.fAd K ("letter_of", none)) (fdAt K (He.fAd K ("letter_of", none))) ["house", "known", "first", "heard"] (spLo K) := by
  obtain ⟨uM, gM, rM⟩ := T.c_MOST_PRESSES
  refine T.F_letter_of.ok scLo (fun vs H Q E h => ?_) (fun cdv A outer s H vs Q E hr h => ?_)
  · obtain ⟨house, first, v, h, k, hs, rfl, _⟩ := h
    rfl
  · obtain ⟨house, first, v, h, k, hs, rfl, hk, ok, hh, kk⟩ := h
    have hu := Nat.lt_of_le_of_lt (Nat.add_le_add_left (by decide : 1 ≤ 64) _) hr.units
    refine ⟨_, PSs.nox (pss_cons (KH.ps_setDc (i := 4) (own := [("tick", 5), ("press", 6)]) (g := gTup K 2 (gCons (gName 5) (gCons (gName 6) gNil))) (tt := tYes) rfl scLo.nd rfl rfl (KH.sw_trueD rfl rfl rfl (by decide +kernel)) (pi_tup (pe_ix (r := rIxT K) ix_tup (pv 1) pe_int (fun _ _ => rfl))) (blkOk_by (own := [("tick", 5), ("press", 6)]) (N := ["house", "known", "first", "heard", "presses", "tick", "press", "row", "ends"]) (sc := defScope s_letter_of) (by decide +kernel)) (fun _ _ _ _ _ => pg_tup (by rfl) (pgs_cons (pg_name (i := 5) scLo.nd rfl (Or.inl rfl)) (pgs_cons (pg_name (i := 6) scLo.nd rfl (Or.inl rfl)) pgs_nil))) (fun _ _ _ _ _ => pts_nil) (fun _ _ _ _ _ => pv 5) (fun _ _ _ _ _ => pv 6))
      (pss_cons (ps_set (i := 7) scLo.nd rfl (Or.inl rfl) (pe_lst pa_nil))
      (pss_cons (ps_while PassesOwn.never (PW.pt (pw_and (pt_cmp (pc_din hu (pe_op op_add (pv 2) (pe_callB (r := Evl.rLenS K) call_len_seq (by rfl) T.n_len PyProof.Rows.Boot.«len» (pa_cons (pv 7) pa_nil))) (pv 4))) (pw_and1 (pt_cmpR op_lt (pe_callB (r := Evl.rLenS K) call_len_seq (by rfl) T.n_len PyProof.Rows.Boot.«len» (pa_cons (pv 7) pa_nil)) (pe_glob (v := .int 32) (by rfl) gM rM) (nomark _))))) (pss_one (ps_expr (pe_bm PySem.F.plainAttrs_list PySem.F.slot_list_append PySem.F.type_list_append mt_append (pv 7) (pa_cons (pe_dget hu (pv 4) (pe_op op_add (pv 2) (pe_callB (r := Evl.rLenS K) call_len_seq (by rfl) T.n_len PyProof.Rows.Boot.«len» (pa_cons (pv 7) pa_nil))) (fun _ _ => rfl)) pa_nil)))))
      (pss_cons (ps_set (i := 8) scLo.nd rfl (Or.inl rfl) (pe_ifExp (pt_cmpR op_eq (pe_ix (r := rIxT K) ix_tup (pv 1) pe_int (fun _ _ => rfl)) (pe_op op_add (pv 2) (pe_callB (r := Evl.rLenS K) call_len_seq (by rfl) T.n_len PyProof.Rows.Boot.«len» (pa_cons (pv 7) pa_nil))) (nomark _)) (pe_ix (r := rIxT K) ix_tup (pv 1) pe_int (fun _ _ => rfl)) pe_non))
      (pss_one (ps_ret (pe_tup (pa_cons (pv 0) (pa_cons (pv 2) (pa_cons (pe_callTy call_tuple_of (by rfl) T.n_tuple PyProof.Rows.Boot.«tuple» (pa_cons (pv 7) pa_nil)) (pa_cons (pv 8) (pa_cons (pv 3) pa_nil)))))))))))), ?_⟩
    obtain ⟨t, r0, ps, rfl, sq, fz, prs⟩ := hk
    refine ⟨_, rfl, t, _, _, _, rfl, rfl, sq, atI_nat (j := 0) rfl, r0, rfl, ⟨_, fz⟩, fun D hD => ?_⟩
    have hpl := Paired.length prs
    have hkl := ok.len
    have sD := new_same (o := .dK []) hD
    refine dc_tup (xs := ps.map V.ref) (fun i H' => Same H H' ∧ H' D = some (.dK (dk (k.row.take i)))) ⟨sD, upd_same⟩ (fun i H' _ h => (same_tf h.1).sq fz) (fun i x H' hx h => ?_) (fun H3 h => ?_)
    · obtain ⟨sm, hd⟩ := h
      rw [List.getElem?_map] at hx
      cases hp : ps[i]? with
      | none => rw [hp] at hx; cases hx
      | some q =>
        rw [hp] at hx
        cases hx
        obtain ⟨e, he, hq⟩ := paired_at prs hp
        have hi := (List.getElem?_eq_some_iff.mp he).1
        refine ⟨q, _, rfl, (same_tf sm).sq hq, rfl, _, _, rfl, _, _, rfl, rfl, ?_⟩
        refine ⟨rfl, ?_⟩
        dsimp only [tYes]
        rw [if_pos rfl]
        refine ⟨_, rfl, _, rfl, dk (k.row.take i), .inl e.1, rfl, hd, by rw [dk_len, List.length_take]; exact Nat.lt_of_lt_of_le (show min i k.row.length < 1001 by omega) (by decide), fun b o z => ?_, ?_⟩
        · rw [upd_ne (ne_of_none z hD)]
          exact sm _ _ z
        · rw [upd_same, dk_put, put_new, List.take_add_one, he]
          · rfl
          · cases hl : look (k.row.take i) e.1 with
            | none => rfl
            | some w =>
              exfalso
              obtain ⟨j, hj⟩ := List.mem_iff_getElem?.mp (look_mem hl)
              rw [List.getElem?_take] at hj
              split at hj
              · rename_i hji
                have hjl := (List.getElem?_eq_some_iff.mp hj)
                have hil := (List.getElem?_eq_some_iff.mp he)
                have := List.pairwise_iff_getElem.mp ok.asc j i (by unfold keys; rw [List.length_map]; exact hjl.1) (by unfold keys; rw [List.length_map]; exact hi) hji
                unfold keys at this
                rw [List.getElem_map, List.getElem_map, hjl.2, hil.2] at this
                exact absurd this (by show ¬ e.1 < e.1; omega)
              · cases hj
    obtain ⟨s3, hd3⟩ := h
    have hfull : k.row.take (ps.map V.ref).length = k.row := List.take_of_length_le (by rw [List.length_map, hpl]; exact Nat.le_refl _)
    rw [hfull] at hd3
    refine ⟨(show 0 ≤ sizeLine by decide), fun L nL => ?_⟩
    have sL := new_same (o := .lst []) nL
    have nDL : D ≠ L := fun z => by rw [← z, hd3] at nL; cases nL
    have s4 := s3.trans sL
    dsimp only
    refine seq_cut (fun σ H' => σ = [some (.int house), some (.ref t), some (.int first), some (.ref h), some (.ref D), none, none, some (.ref L), none] ∧ H' L = some (.lst ((rrun k.row first 32).map V.int)) ∧ Same H H') (fun σ H' h => ?_) (fun R hR => ?_)
    · obtain ⟨rfl, hL, sm⟩ := h
      have tf := same_tf sm
      refine ⟨_, rfl, t, _, _, _, rfl, rfl, tf.sq sq, atI_nat (j := 1) rfl, _, rfl, _, rfl, L, _, rfl, .inl (SqL.of hL), _, _, rfl, rfl, scal_ov _ _, _, rfl, ?_⟩
      rw [dec_ov, List.length_map]
      have fin : ∀ e : Option Int, e = (theL k house first hs).ends → ∀ q, H' q = none → ∀ u, (upd H' q (.tup ((rrun k.row first 32).map V.int))) u = none → Q (.ref u) (upd (upd H' q (.tup ((rrun k.row first 32).map V.int))) u (.tup [.int house, .int first, .ref q, ov e, .ref h])) := fun e he q nq u nu => by
        have s1 := new_same (o := .tup ((rrun k.row first 32).map V.int)) nq
        have s2 := new_same (o := .tup [.int house, .int first, .ref q, ov e, .ref h]) nu
        refine kk _ _ ((sm.trans s1).trans s2) ⟨u, q, h, rfl, ?_, (same_tf s2).sq (SqT.of upd_same), (same_tf ((sm.trans s1).trans s2)).sq hh⟩
        rw [← he]
        exact SqT.of upd_same
      refine ite2 (fun z => ?_) (fun z => ?_)
      · have hz := of_decide_eq_true z
        refine ⟨_, rfl, t, _, _, _, rfl, rfl, tf.sq sq, atI_nat (j := 1) rfl, ?_⟩
        refine ⟨_, rfl, _, rfl, _, rfl, L, _, rfl, .inl ⟨SqL.of hL, fun q nq => ⟨_, rfl, _, rfl, (show 5 ≤ sizeLine by decide), fun u nu => ?_⟩⟩⟩
        exact fin k.ends (by unfold theL; rw [if_pos hz]) q nq u nu
      · have hz : ¬ k.ends = some (first + ((rrun k.row first 32).length : Nat)) := fun w => z (decide_eq_true w)
        refine ⟨_, rfl, _, rfl, _, rfl, L, _, rfl, .inl ⟨SqL.of hL, fun q nq => ⟨_, rfl, _, rfl, (show 5 ≤ sizeLine by decide), fun u nu => ?_⟩⟩⟩
        exact fin none (by unfold theL; rw [if_neg hz]) q nq u nu
    · refine ⟨fun m σ H' => ∃ ns : List Int, σ = [some (.int house), some (.ref t), some (.int first), some (.ref h), some (.ref D), none, none, some (.ref L), none] ∧ m = 32 - ns.length ∧ Sof k.row first ns ∧ H' L = some (.lst (ns.map V.int)) ∧ H' D = some (.dK (dk k.row)) ∧ Same H H', ⟨32, [], rfl, rfl, sof_0 _ _, upd_same, sL _ _ hd3, s4⟩, fun m σ H' hW => ?_⟩
      obtain ⟨ns, rfl, rfl, hs', hL, hDd, sm⟩ := hW
      refine ⟨_, rfl, _, rfl, L, _, rfl, .inl (SqL.of hL), _, _, rfl, rfl, _, rfl, D, _, rfl, look_dk (.inl hDd), _, rfl, ?_⟩
      rw [List.length_map]
      cases e : look k.row (first + (ns.length : Nat)) with
      | none =>
        refine iteF (iteF (hR _ _ ⟨rfl, ?_, sm⟩))
        rw [← sof_end hs' (.inl e)]
        exact hL
      | some v =>
        refine iteT ?_
        refine ⟨_, rfl, L, _, rfl, .inl (SqL.of hL), _, _, rfl, rfl, _, rfl, ?_⟩
        rw [List.length_map]
        refine ite2 (fun z => ?_) (fun z => ?_)
        · have hlt : (ns.length : Int) < 32 := of_decide_eq_true z
          refine ⟨fun σ' H2 => σ' = [some (.int house), some (.ref t), some (.int first), some (.ref h), some (.ref D), none, none, some (.ref L), none] ∧ H2 L = some (.lst ((ns ++ [v]).map V.int)) ∧ H2 D = some (.dK (dk k.row)) ∧ Same H H2, fun σ' H2 ⟨e1, e2, e3, e4⟩ => ⟨32 - (ns ++ [v]).length, by rw [List.length_append, List.length_singleton]; omega, ns ++ [v], e1, rfl, sof_next hs' (by omega) e, e2, e3, e4⟩, ?_⟩
          refine ⟨_, rfl, .inl ⟨rfl, _, SqL.of hL⟩, _, rfl, _, rfl, _, rfl, L, _, rfl, .inl (SqL.of hL), _, _, rfl, rfl, D, .int v, rfl, ?_, ?_⟩
          · rw [List.length_map]
            have := look_dk (t := first + (ns.length : Nat)) (.inl hDd)
            rw [e] at this
            exact this
          · refine ⟨L, _, _, rfl, rfl, hL, by rw [List.length_map]; exact Nat.lt_of_lt_of_le (show ns.length < 100 by omega) (by decide), rfl, ?_, by rw [upd_ne nDL]; exact hDd, fun b o z => by rw [upd_ne (ne_of_none (s3 _ _ z) nL)]; exact sm _ _ z⟩
            rw [upd_same, List.map_append]
            rfl
        · refine hR _ _ ⟨rfl, ?_, sm⟩
          have hge : ¬ (ns.length : Int) < 32 := fun w => z (decide_eq_true w)
          rw [← sof_end hs' (.inr (by have := hs'.1; omega))]
          exact hL
end
end K51
set_option maxRecDepth 100000
set_option maxHeartbeats 4000000
/-! The law's draws. -/
namespace K51
open PySem PySem.Spec PyProof.Rows L2 KF KD
/-! ### great powers -/
def CPowW (i j : Int) : Prop := 0 ≤ j ∧ j ≤ 1000 ∧ i.natAbs < 2 ^ 1000
theorem op_powW {X : Cx} : OpR X (binaryOp .Pow) (rI CPowW fun i j => .int (i ^ j.toNat)) := opI fun i j _ _ _ _ _ hc q => by
  refine PyProof.Rows.pow_int hc.1 ?_ q
  have hb : Builtin.Int.intBits i ≤ 1000 := by
    have h := PySem.Flt.log2_lt_of (by decide) hc.2.2
    unfold Builtin.Int.intBits
    split <;> omega
  have h1 : (Builtin.Int.intBits i : Int) ≤ 1000 := by omega
  have h2 := Int.mul_le_mul h1 hc.2.1 hc.1 (by decide)
  exact Int.le_trans h2 (by decide)
/-- a row of draws at d, good for n more -/
def Dk (H : Hp) (d : Addr) (n : Nat) : Prop := ∃ r m c : Int, H d = some (.lst [.int r, .int m, .int c]) ∧ 0 ≤ m ∧ m < 10000000000000000000000000000000 ∧ 0 ≤ c ∧ c + n ≤ 1000000000000
theorem Dk.le {H : Hp} {d : Addr} {n k : Nat} (h : Dk H d n) (hk : k ≤ n) : Dk H d k := by
  obtain ⟨r, m, c, h0, h1, h2, h3, h4⟩ := h
  exact ⟨r, m, c, h0, h1, h2, h3, by omega⟩
theorem Dk.lst {H : Hp} {d : Addr} {n : Nat} (h : Dk H d n) : ∃ xs, H d = some (.lst xs) := by
  obtain ⟨r, m, c, h0, _⟩ := h
  exact ⟨_, h0⟩
theorem Dk.same {H H' : Hp} {d : Addr} {n : Nat} (h : Dk H d n) (e : Same H H') : Dk H' d n := by
  obtain ⟨r, m, c, h0, h1⟩ := h
  exact ⟨r, m, c, e _ _ h0, h1⟩
theorem Dk.ne {H : Hp} {d p : Addr} {n : Nat} (h : Dk H d n) (np : H p = none) : p ≠ d := fun z => by
  obtain ⟨xs, hx⟩ := h.lst
  rw [z, hx] at np
  cases np
theorem Dk.upd {H : Hp} {d p : Addr} {n : Nat} {o : HO} (h : Dk H d n) (np : p ≠ d) : Dk (upd H p o) d n := by
  obtain ⟨r, m, c, h0, h1⟩ := h
  exact ⟨r, m, c, by rw [upd_ne np.symm]; exact h0, h1⟩
section
variable {P : Program} {w : World} {K : PySem.W.Frag} {mg : Str → Option Value} {base : Heap}
/-! ### _law_deck -/
def spDeck (K : PySem.W.Frag) : Sp := fun vs H Q _ => ∃ (a : Addr) (ns : List Int) (k : Nat), vs = [.ref a, .int (k : Int)] ∧ SqL K H a (ns.map V.int) ∧ k ≤ 100 ∧ ∀ l H', Same H H' → H l = none → Dk H' l 900000000000 → Q (.ref l) H'
theorem scD : FnScope ["script", "at", "cell"] ["script", "at"] (defScope s_law_deck) := ⟨rfl, rfl, rfl, by decide +kernel, rfl, by decide +kernel, by decide +kernel⟩
theorem ok_law_deck (T : Txt K w mg) : FnOk P w K mg base CX0 1 (He.fAd K ("_law_deck", none)) (fdAt K (He.fAd K ("_law_deck", none))) ["script", "at"] (spDeck K) := by
  refine T.F_law_deck.ok scD (fun vs H Q E h => ?_) (fun cdv A outer s H vs Q E hr h => ?_)
  · obtain ⟨a, ns, k, rfl, _⟩ := h
    rfl
  · obtain ⟨a, ns, k, rfl, hS, hk, kk⟩ := h
    refine ⟨_, PSs.nox (pss_cons (ps_set (i := 2) scD.nd rfl (Or.inl rfl) (pe_ifExp (pt_cmpR op_lt (pv 1) (pe_callB (r := Evl.rLenS K) call_len_seq (by rfl) T.n_len PyProof.Rows.Boot.«len» (pa_cons (pv 0) pa_nil)) (nomark _)) (pe_callTy call_int1 (by rfl) T.n_int PyProof.Rows.Boot.«int» (pa_cons (pe_ix (r := rIxL K) ix_list (pv 0) (pv 1) (fun _ _ => rfl)) pa_nil)) (pe_op op_mulW pe_int (pe_op op_add (pv 1) pe_int))))
      (pss_one (ps_ret (pe_lst (pa_cons (pe_callB (call_max2 rfl) (by rfl) T.n_max PyProof.Rows.Boot.«max» (pa_cons pe_int (pa_cons (pe_op op_sub (pe_callB call_abs (by rfl) T.n_abs PyProof.Rows.Boot.«abs» (pa_cons (pv 2) pa_nil)) (pe_op op_pow pe_int pe_int)) pa_nil))) (pa_cons (pe_op op_mod (pe_callTy call_int1 (by rfl) T.n_int PyProof.Rows.Boot.«int» (pa_cons (pe_op op_add (pe_op op_mul pe_int (pv 2)) (pe_op op_mulW pe_int (pv 1))) pa_nil)) (pe_op op_add (pe_op op_pow pe_int pe_int) pe_int)) (pa_cons pe_int pa_nil))))))), ?_⟩
    have fin : ∀ (r z : Int) (l : Addr), H l = none → Q (.ref l) (upd H l (.lst [.int r, .int (z % (10 ^ (30 : Int).toNat + 57)), .int 0])) := fun r z l n => by
      have e0 : (10 : Int) ^ (30 : Int).toNat + 57 = 1000000000000000000000000000057 := by decide
      have e1 := Int.emod_nonneg z (show (1000000000000000000000000000057 : Int) ≠ 0 by decide)
      have e2 := Int.emod_lt_of_pos z (show (0 : Int) < 1000000000000000000000000000057 by decide)
      rw [e0]
      exact kk l _ (fun b o e => by rw [upd_ne (ne_of_none e n)]; exact e) n ⟨r, _, _, upd_same, e1, by omega, by omega, by omega⟩
    refine ⟨_, rfl, _, rfl, a, _, rfl, .inl hS, _, _, rfl, rfl, _, rfl, ite2 (fun z => ?_) (fun z => ?_)⟩
    · have hk2 := of_decide_eq_true z
      have hk3 : k < ns.length := by
        rw [List.length_map] at hk2
        omega
      refine ⟨_, rfl, _, rfl, a, _, _, _, rfl, rfl, hS, atI_nat (v := .int ns[k]) (by rw [List.getElem?_map, List.getElem?_eq_getElem hk3]; rfl), .inl ⟨_, rfl, ?_⟩⟩
      refine ⟨_, rfl, _, rfl, _, _, rfl, rfl, ⟨by decide, by decide, by decide⟩, _, _, rfl, rfl, _, _, rfl, ?_⟩
      refine ⟨_, rfl, _, _, rfl, rfl, .inl ⟨by decide, by decide⟩, _, rfl, _, _, rfl, rfl, wide_mul (a := 40) (b := 20) (by decide) (small_ab (by omega) (by rw [pow20]; omega)) (by decide) (by decide) (by decide), _, _, rfl, rfl, .inl ⟨_, rfl, ?_⟩⟩
      exact ⟨_, _, rfl, rfl, ⟨by decide, by decide, by decide⟩, _, _, rfl, rfl, _, _, rfl, rfl, (show (0 : Int) < 10 ^ (30 : Int).toNat + 57 by decide), (show 3 ≤ sizeLine by decide), fun l n => fin _ _ l n⟩
    · refine ⟨_, rfl, _, _, rfl, rfl, _, _, rfl, rfl, wide_mul (a := 40) (b := 20) (by decide) (small_ab (by omega) (by rw [pow20]; omega)) (by decide) (by decide) (by decide), ?_⟩
      refine ⟨_, rfl, _, rfl, _, _, rfl, rfl, ⟨by decide, by decide, by decide⟩, _, _, rfl, rfl, _, _, rfl, ?_⟩
      refine ⟨_, rfl, _, _, rfl, rfl, .inl ⟨by decide, by decide⟩, _, rfl, _, _, rfl, rfl, wide_mul (a := 40) (b := 20) (by decide) (small_ab (by omega) (by rw [pow20]; omega)) (by decide) (by decide) (by decide), _, _, rfl, rfl, .inl ⟨_, rfl, ?_⟩⟩
      exact ⟨_, _, rfl, rfl, ⟨by decide, by decide, by decide⟩, _, _, rfl, rfl, _, _, rfl, rfl, (show (0 : Int) < 10 ^ (30 : Int).toNat + 57 by decide), (show 3 ≤ sizeLine by decide), fun l n => fin _ _ l n⟩
/-! ### _law_draw -/
def spDraw : Sp := fun vs H Q _ => ∃ (d : Addr) (m : Int) (n : Nat), vs = [.ref d, .int m] ∧ 0 < m ∧ m < 1000000000000 ∧ Dk H d (n + 1) ∧ ∀ (x : Int) H', 0 ≤ x → x < m → Frm d H H' → Dk H' d n → Q (.int x) H'
theorem scT : FnScope ["deck", "many", "found", "mixed"] ["deck", "many"] (defScope s_law_draw) := ⟨rfl, rfl, rfl, by decide +kernel, rfl, by decide +kernel, by decide +kernel⟩
theorem p104 : (2 : Int) ^ 104 = 20282409603651670423947251286016 := by decide
theorem ok_law_draw (T : Txt K w mg) : FnOk P w K mg base CX0 1 (He.fAd K ("_law_draw", none)) (fdAt K (He.fAd K ("_law_draw", none))) ["deck", "many"] spDraw := by
  refine T.F_law_draw.ok scT (fun vs H Q E h => ?_) (fun cdv A outer s H vs Q E hr h => ?_)
  · obtain ⟨d, m, n, rfl, _⟩ := h
    rfl
  · obtain ⟨d, m, n, rfl, hm0, hm1, ⟨r, mm, c, hd, a1, a2, a3, a4⟩, k⟩ := h
    refine ⟨_, PSs.nox (pss_cons (ps_if (pt_cmpR op_gt (pe_ix (r := rIxL K) ix_list (pv 0) pe_int (fun _ _ => rfl)) pe_int (nomark _)) (pss_cons (ps_set (i := 2) scT.nd rfl (Or.inl rfl) (pe_op op_mod (pe_callTy call_int1 (by rfl) T.n_int PyProof.Rows.Boot.«int» (pa_cons (pe_ix (r := rIxL K) ix_list (pv 0) pe_int (fun _ _ => rfl)) pa_nil)) (pv 1)))
      (pss_cons (ps_asg (pe_op op_fdivW (pe_ix (r := rIxL K) ix_list (pv 0) pe_int (fun _ _ => rfl)) (pv 1)) (pg_sub (pv 0) pe_int set_list))
      (pss_one (ps_ret (pv 2))))) pss_nil)
      (pss_cons (ps_asg (pe_op op_add (pe_ix (r := rIxL K) ix_list (pv 0) pe_int (fun _ _ => rfl)) pe_int) (pg_sub (pv 0) pe_int set_list))
      (pss_cons (ps_set (i := 3) scT.nd rfl (Or.inl rfl) (pe_op op_mod (pe_callTy call_int1 (by rfl) T.n_int PyProof.Rows.Boot.«int» (pa_cons (pe_op op_powW (pe_op op_add (pe_ix (r := rIxL K) ix_list (pv 0) pe_int (fun _ _ => rfl)) (pe_op op_mulW pe_int (pe_ix (r := rIxL K) ix_list (pv 0) pe_int (fun _ _ => rfl)))) pe_int) pa_nil)) (pe_op op_add (pe_op op_pow pe_int pe_int) pe_int)))
      (pss_cons (ps_set (i := 3) scT.nd rfl (Or.inl rfl) (pe_op op_mod (pe_callTy call_int1 (by rfl) T.n_int PyProof.Rows.Boot.«int» (pa_cons (pe_op op_powW (pe_op op_add (pv 3) (pe_op op_mulW pe_int (pe_ix (r := rIxL K) ix_list (pv 0) pe_int (fun _ _ => rfl)))) pe_int) pa_nil)) (pe_op op_add (pe_op op_pow pe_int pe_int) pe_int)))
      (pss_one (ps_ret (pe_op op_mod (pe_callTy call_int1 (by rfl) T.n_int PyProof.Rows.Boot.«int» (pa_cons (pe_op op_fdivW (pv 3) (pe_op op_pow pe_int pe_int)) pa_nil)) (pv 1)))))))), ?_⟩
    have hW : CDivW 0 m := wide_div hm0 (small_ab (n := 40) (by omega) (by rw [pow40]; omega)) (by decide) (by decide)
    refine ⟨_, rfl, _, _, _, _, rfl, rfl, SqL.of hd, at_of (j := 0) rfl rfl, _, _, rfl, rfl, _, rfl, ite2 (fun z => ?_) (fun z => ?_)⟩
    · refine ⟨_, rfl, _, _, _, _, rfl, rfl, SqL.of hd, at_of (j := 0) rfl rfl, .inl ⟨_, rfl, _, rfl, _, _, rfl, rfl, hm0, ?_⟩⟩
      refine ⟨_, rfl, _, _, _, _, rfl, rfl, SqL.of hd, at_of (j := 0) rfl rfl, _, rfl, _, _, rfl, rfl, hW, _, rfl, _, _, _, 0, rfl, rfl, hd, rfl, _, rfl, ?_⟩
      exact k _ _ (Int.emod_nonneg _ (by omega)) (Int.emod_lt_of_pos _ hm0) Frm.of_upd ⟨_, mm, c, upd_same, a1, a2, a3, by omega⟩
    · have hd1 : (upd H d (.lst [.int r, .int mm, .int (c + 1)])) d = some (.lst [.int r, .int mm, .int (c + 1)]) := upd_same
      refine ⟨_, rfl, _, _, _, _, rfl, rfl, SqL.of hd, at_of (j := 2) rfl rfl, _, _, rfl, rfl, _, rfl, _, _, _, 2, rfl, rfl, hd, rfl, ?_⟩
      have b1 : CMulW 32452843 (c + 1) := wide_mul (a := 40) (b := 40) (by decide) (small_ab (by omega) (by rw [pow40]; omega)) (by decide) (by decide) (by decide)
      have b2 : CMulW 15485863 (c + 1) := wide_mul (a := 40) (b := 40) (by decide) (small_ab (by omega) (by rw [pow40]; omega)) (by decide) (by decide) (by decide)
      have x0a : (mm + 32452843 * (c + 1)).natAbs < 2 ^ 1000 := Nat.lt_of_lt_of_le (small_ab (n := 110) (i := mm + 32452843 * (c + 1)) (by omega) (by rw [show (2 : Int) ^ 110 = 1298074214633706907132624082305024 by decide]; omega)) (Nat.pow_le_pow_right (by decide) (by decide))
      have e34 : (10 : Int) ^ (34 : Int).toNat + 193 = 10000000000000000000000000000000193 := by decide
      have e36 : (10 : Int) ^ (36 : Int).toNat + 159 = 1000000000000000000000000000000000159 := by decide
      refine ⟨_, rfl, _, _, _, _, rfl, rfl, SqL.of hd1, at_of (j := 1) rfl rfl, _, rfl, _, _, _, _, rfl, rfl, SqL.of hd1, at_of (j := 2) rfl rfl, _, _, rfl, rfl, b1, _, _, rfl, rfl, ?_⟩
      refine ⟨_, _, rfl, rfl, ⟨by decide, by decide, x0a⟩, .inl ⟨_, rfl, _, _, rfl, rfl, ⟨by decide, by decide, by decide⟩, _, _, rfl, rfl, _, _, rfl, rfl, (show (0 : Int) < 10 ^ (34 : Int).toNat + 193 by decide), ?_⟩⟩
      obtain ⟨x1, hx1⟩ : ∃ x1, x1 = (mm + 32452843 * (c + 1)) ^ (3 : Int).toNat % (10 ^ (34 : Int).toNat + 193) := ⟨_, rfl⟩
      have y1 := Int.emod_nonneg ((mm + 32452843 * (c + 1)) ^ (3 : Int).toNat) (show (10000000000000000000000000000000193 : Int) ≠ 0 by decide)
      have y2 := Int.emod_lt_of_pos ((mm + 32452843 * (c + 1)) ^ (3 : Int).toNat) (show (0 : Int) < 10000000000000000000000000000000193 by decide)
      rw [← e34] at y1 y2
      show L2.tSeq _ _ _ (List.set _ 3 (some (V.int ((mm + 32452843 * (c + 1)) ^ (3 : Int).toNat % (10 ^ (34 : Int).toNat + 193))))) _
      rw [← hx1] at y1 y2 ⊢
      rw [e34] at y2
      have x1a : (x1 + 15485863 * (c + 1)).natAbs < 2 ^ 1000 := Nat.lt_of_lt_of_le (small_ab (n := 120) (i := x1 + 15485863 * (c + 1)) (by omega) (by rw [show (2 : Int) ^ 120 = 1329227995784915872903807060280344576 by decide]; omega)) (Nat.pow_le_pow_right (by decide) (by decide))
      refine ⟨_, rfl, _, rfl, _, _, _, _, rfl, rfl, SqL.of hd1, at_of (j := 2) rfl rfl, _, _, rfl, rfl, b2, _, _, rfl, rfl, ?_⟩
      refine ⟨_, _, rfl, rfl, ⟨by decide, by decide, x1a⟩, .inl ⟨_, rfl, _, _, rfl, rfl, ⟨by decide, by decide, by decide⟩, _, _, rfl, rfl, _, _, rfl, rfl, (show (0 : Int) < 10 ^ (36 : Int).toNat + 159 by decide), ?_⟩⟩
      refine ⟨_, rfl, _, _, rfl, rfl, ⟨by decide, by decide, by decide⟩, _, _, rfl, rfl, wide_div (b := 30) (by decide) (by decide) (by decide) (by decide), .inl ⟨_, rfl, _, rfl, _, _, rfl, rfl, hm0, ?_⟩⟩
      exact k _ _ (Int.emod_nonneg _ (by omega)) (Int.emod_lt_of_pos _ hm0) Frm.of_upd ⟨r, mm, c + 1, upd_same, a1, a2, by omega, by omega⟩
end
end K51
set_option maxRecDepth 100000
set_option maxHeartbeats 4000000
/-! Equal, and of one kind. -/
namespace KF
open PySem PySem.Spec PyProof.Rows L2
section
variable {X : Cx}
def rNeNil (K : PySem.W.Frag) (c : Bool) : R2 := fun x y H Q => ∃ ds, Dp K H x (.list ds) ∧ Dp K H y (.list []) ∧ PyData.canLayAll0 ds = true ∧ Q (.bl (c == ds.isEmpty)) H
theorem eqv_nil (ds : List PyData) : PyData.eqv (.list ds) (.list []) = ds.isEmpty := by
  cases ds <;> simp [PyData.eqv, PyData.eqvAll]
theorem op_neNil (hu : X.A.units + 64 < cLine) : OpR X (compareOp .NotEq) (rNeNil X.K false) := by
  intro pins s σ H x y v u Q I rx ry h
  obtain ⟨ds, hd, he, hc, q⟩ := h
  obtain ⟨as, r1⟩ := Dp.reads I _ x v hd rx
  obtain ⟨bs, r2⟩ := Dp.reads I _ y u he ry
  have e : (PyData.list []).depth = 1 := by simp [PyData.depth, PyData.depthAll]
  refine SeqAt.compareNe_reads r1 r2 (by simpa [PyData.canLay0] using hc) (by simp [PyData.canLay0, PyData.canLayAll0]) (by rw [e]; have := Nat.min_le_right (PyData.list ds).depth 1; omega) ⟨.bl _, H, I, rfl, ?_⟩
  rw [eqv_nil]
  simpa using q
theorem op_eqNil (hu : X.A.units + 64 < cLine) : OpR X (compareOp .Eq) (rNeNil X.K true) := by
  intro pins s σ H x y v u Q I rx ry h
  obtain ⟨ds, hd, he, hc, q⟩ := h
  obtain ⟨as, r1⟩ := Dp.reads I _ x v hd rx
  obtain ⟨bs, r2⟩ := Dp.reads I _ y u he ry
  have e : (PyData.list []).depth = 1 := by simp [PyData.depth, PyData.depthAll]
  refine SeqAt.compareEq_reads r1 r2 (by simpa [PyData.canLay0] using hc) (by simp [PyData.canLay0, PyData.canLayAll0]) (by rw [e]; have := Nat.min_le_right (PyData.list ds).depth 1; omega) ⟨.bl _, H, I, rfl, ?_⟩
  rw [eqv_nil]
  simpa using q
end
end KF
namespace K51
open PySem PySem.Spec PyProof.Rows L2 KF KD
def AlOk : Nat → PyData → Prop
  | 0, d => match d with
    | .none => True
    | .int _ => True
    | _ => False
  | n + 1, d => match d with
    | .none => True
    | .int _ => True
    | .tuple ds => ds.length ≤ 1100 ∧ NLs ds ∧ ∀ e ∈ ds, AlOk n e
    | _ => False
theorem nl_get' : ∀ {ds : List PyData} {i : Nat}, NLs ds → (h : i < ds.length) → NL ds[i]
  | d :: ds, 0, h, _ => h.1
  | d :: ds, i + 1, h, hi => nl_get' (ds := ds) h.2 (Nat.lt_of_succ_lt_succ hi)
def spSame (K : PySem.W.Frag) (n : Nat) : Sp := fun vs H Q _ => ∃ (v1 v2 : V) (d : PyData), vs = [v1, v2] ∧ Dp K H v1 d ∧ Dp K H v2 d ∧ AlOk n d ∧ ∀ H', Same H H' → Q (.bl true) H'
def spSm (K : PySem.W.Frag) : Nat → Sp
  | 0 => fun _ _ _ _ => False
  | n + 1 => spSame K n
section
variable {P : Program} {w : World} {K : PySem.W.Frag} {mg : Str → Option Value} {base : Heap}
theorem kit_tl_int : PySem.W.kitAny K (.type "int") [.type "tuple", .type "list"] = some false := kitAny_cons (b := false) (kit_ty (by decide +kernel)) (fun _ => kitAny_cons (b := false) (kit_ty (by decide +kernel)) (fun _ => kitAny_nil) (fun z => nomatch z)) (fun z => nomatch z)
theorem kit_tl_non : PySem.W.kitAny K (.type "NoneType") [.type "tuple", .type "list"] = some false := kitAny_cons (b := false) (kit_ty (by decide +kernel)) (fun _ => kitAny_cons (b := false) (kit_ty (by decide +kernel)) (fun _ => kitAny_nil) (fun z => nomatch z)) (fun z => nomatch z)
theorem kit_tl_tup : PySem.W.kitAny K (.type "tuple") [.type "tuple", .type "list"] = some true := kitAny_cons (b := true) (kit_ty (by decide +kernel)) (fun z => nomatch z) (fun _ => rfl)
theorem scSm : FnScope ["told", "due", "kind", "at"] ["told", "due"] (defScope s_law_same) := ⟨rfl, rfl, rfl, by decide +kernel, rfl, by decide +kernel, by decide +kernel⟩
theorem ok_law_same (T : Txt K w mg) : ∀ n : Nat, FnOk P w K mg base CX0 n (He.fAd K ("_law_same", none)) (fdAt K (He.fAd K ("_law_same", none))) ["told", "due"] (spSm K n)
  | 0 => ⟨fun _ _ _ _ z => z.elim, fun _ _ _ _ _ _ _ _ _ _ _ _ _ z => z.elim⟩
  | n + 1 => by
    have G := ok_law_same T n
    refine T.F_law_same.ok scSm (fun vs H Q E h => ?_) (fun cdv A outer s H vs Q E hr h => ?_)
    · obtain ⟨v1, v2, d, rfl, _⟩ := h
      rfl
    · obtain ⟨v1, v2, d, rfl, h1, h2, hp, k⟩ := h
      refine ⟨_, PSs.nox (pss_cons (ps_if (pt_val (pe_callB (r := rIsiT K) call_isiT (by rfl) T.n_isinstance PyProof.Rows.Boot.«isinstance» (pa_cons (pv 1) (pa_cons (pe_tup (pa_cons (pe_bltn (v := .ty "tuple") (by rfl) T.n_tuple PyProof.Rows.Boot.«tuple» rfl) (pa_cons (pe_bltn (v := .ty "list") (by rfl) T.n_list PyProof.Rows.Boot.«list» rfl) pa_nil))) pa_nil)))) (pss_cons (ps_set (i := 2) scSm.nd rfl (Or.inl rfl) (pe_ifExp (pt_val (pe_callB (r := rIsi K) call_isi (by rfl) T.n_isinstance PyProof.Rows.Boot.«isinstance» (pa_cons (pv 1) (pa_cons (pe_bltn (v := .ty "tuple") (by rfl) T.n_tuple PyProof.Rows.Boot.«tuple» rfl) pa_nil)))) (pe_callB (r := rIsi K) call_isi (by rfl) T.n_isinstance PyProof.Rows.Boot.«isinstance» (pa_cons (pv 0) (pa_cons (pe_bltn (v := .ty "tuple") (by rfl) T.n_tuple PyProof.Rows.Boot.«tuple» rfl) pa_nil))) (pe_callB (r := rIsi K) call_isi (by rfl) T.n_isinstance PyProof.Rows.Boot.«isinstance» (pa_cons (pv 0) (pa_cons (pe_bltn (v := .ty "list") (by rfl) T.n_list PyProof.Rows.Boot.«list» rfl) pa_nil)))))
      (pss_cons (ps_if (PW.pt (pw_or (pt_not (pt_val (pv 2))) (pw_or1 (pt_cmpR op_ne (pe_callB (r := Evl.rLenS K) call_len_seq (by rfl) T.n_len PyProof.Rows.Boot.«len» (pa_cons (pv 0) pa_nil)) (pe_callB (r := Evl.rLenS K) call_len_seq (by rfl) T.n_len PyProof.Rows.Boot.«len» (pa_cons (pv 1) pa_nil)) (nomark _))))) (pss_one (ps_ret pe_bl)) pss_nil)
      (pss_one (ps_ret (pe_cmpR (r := rNeNil K true) (op_eqNil hr.units) (pe_lc (own := [("at", 3)]) (g := gName 3) (by rfl) scSm.nd (pi_range1 (by rfl) T.n_range (pa_cons (pe_callB (r := Evl.rLenS K) call_len_seq (by rfl) T.n_len PyProof.Rows.Boot.«len» (pa_cons (pv 1) pa_nil)) pa_nil)) (blkOk_by (own := [("at", 3)]) (N := ["told", "due", "kind", "at"]) (sc := defScope s_law_same) (by decide +kernel)) (fun _ _ _ _ _ => pg_name (i := 3) scSm.nd rfl (Or.inl rfl)) (fun _ _ _ _ _ => pts_one (pt_not (pt_val (pe_call G (hr.mono (by omega)) (by rfl) T.g_law_same (T.F_law_same).kp T.b_law_same .nil pass0 (pa_cons (pe_ix (r := rIxT K) ix_tup (pv 0) (pv 3) (fun _ _ => rfl)) (pa_cons (pe_ix (r := rIxT K) ix_tup (pv 1) (pv 3) (fun _ _ => rfl)) pa_nil)))))) (fun _ _ _ _ _ => (pv 3))) (pe_lst pa_nil) (nomark _)))))) pss_nil)
      (pss_cons (ps_if (pt_cmpR op_isN (pv 1) pe_non (nomark _)) (pss_one (ps_ret (pe_cmpR op_isN (pv 0) pe_non (nomark _)))) pss_nil)
      (pss_one (ps_ret (pe_and (pe_callB (r := rIsi K) call_isi (by rfl) T.n_isinstance PyProof.Rows.Boot.«isinstance» (pa_cons (pv 0) (pa_cons (pe_bltn (v := .ty "int") (by rfl) T.n_int PyProof.Rows.Boot.«int» rfl) pa_nil))) (pe_and (pe_cmpR op_eq (pe_callB (r := rIsi K) call_isi (by rfl) T.n_isinstance PyProof.Rows.Boot.«isinstance» (pa_cons (pv 0) (pa_cons (pe_bltn (v := .ty "bool") (by rfl) T.n_bool PyProof.Rows.Boot.«bool» rfl) pa_nil))) (pe_callB (r := rIsi K) call_isi (by rfl) T.n_isinstance PyProof.Rows.Boot.«isinstance» (pa_cons (pv 1) (pa_cons (pe_bltn (v := .ty "bool") (by rfl) T.n_bool PyProof.Rows.Boot.«bool» rfl) pa_nil))) (nomark _)) (pe_one (pe_cmpR op_eq (pv 0) (pv 1) (nomark _))))))))), ?_⟩
      cases d with
      | none =>
        cases h1
        cases h2
        refine ⟨_, rfl, (show 2 ≤ sizeLine by decide), fun p np => ⟨_, p, _, .type "NoneType", _, _, rfl, upd_same, .cons (.ty _) (.cons (.ty _) .nil), .base .non, kit_tl_non, _, rfl, iteF ?_⟩⟩
        have s1 := new_same (o := .tup [.ty "tuple", .ty "list"]) np
        exact ⟨_, rfl, rfl, _, rfl, ite2 (fun _ => ⟨_, rfl, rfl, k _ s1⟩) (fun z => (z rfl).elim)⟩
      | bool c => cases n <;> exact hp.elim
      | str x => cases n <;> exact hp.elim
      | int i =>
        cases h1
        cases h2
        refine ⟨_, rfl, (show 2 ≤ sizeLine by decide), fun p np => ⟨_, p, _, .type "int", _, _, rfl, upd_same, .cons (.ty _) (.cons (.ty _) .nil), .base (.int i), kit_tl_int, _, rfl, iteF ?_⟩⟩
        have s1 := new_same (o := .tup [.ty "tuple", .ty "list"]) np
        refine ⟨_, rfl, rfl, _, rfl, ite2 (fun z => nomatch (of_decide_eq_true z)) (fun _ => ?_)⟩
        refine ⟨_, rfl, _, _, _, _, _, rfl, .ty "int", .base (.int i), kit_ty (r := true) (by decide +kernel), _, rfl, iteT ?_⟩
        refine ⟨_, rfl, _, _, _, _, _, rfl, .ty "bool", .base (.int i), kit_ty (r := false) (by decide +kernel), _, rfl, _, _, _, _, _, rfl, .ty "bool", .base (.int i), kit_ty (r := false) (by decide +kernel), rfl, _, rfl, iteT ?_⟩
        refine ⟨_, rfl, _, rfl, rfl, ?_⟩
        rw [decide_eq_true (rfl : V.int i = V.int i)]
        exact k _ s1
      | list ds => cases n <;> exact hp.elim
      | dict ds => cases n <;> exact hp.elim
      | tuple ds =>
        cases n with
        | zero => exact hp.elim
        | succ m =>
          cases h1 with
          | @tup p xs _ q1 a1 =>
            cases h2 with
            | @tup q ys _ q2 a2 =>
              have l1 := dpa_len a1
              have l2 := dpa_len a2
              have hlen : ds.length ≤ 1100 := hp.1
              refine ⟨_, rfl, (show 2 ≤ sizeLine by decide), fun pp np => ⟨_, pp, _, .type "tuple", _, _, rfl, upd_same, .cons (.ty _) (.cons (.ty _) .nil), ty_tup ((same_tf (new_same np)).sq q2), kit_tl_tup, _, rfl, iteT ?_⟩⟩
              have s0 := new_same (o := .tup [.ty "tuple", .ty "list"]) np
              have q1 := (same_tf s0).sq q1
              have q2 := (same_tf s0).sq q2
              refine ⟨_, rfl, _, _, _, _, _, rfl, .ty "tuple", ty_tup q2, kit_ty (r := true) (by decide +kernel), _, rfl, iteT ?_⟩
              refine ⟨_, rfl, _, _, _, _, _, rfl, .ty "tuple", ty_tup q1, kit_ty (r := true) (by decide +kernel), ?_⟩
              refine ⟨_, rfl, _, rfl, iteF ?_⟩
              refine ⟨_, rfl, _, _, rfl, .inr q1, _, rfl, _, _, rfl, .inr q2, rfl, _, rfl, ?_⟩
              rw [l1, l2, decide_eq_true (rfl : V.int (ds.length : Int) = V.int (ds.length : Int))]
              refine iteF ?_
              refine ⟨_, rfl, q, ys, rfl, .inr q2, (ys.length : Int), rfl, by omega, by omega, fun D hD => ?_⟩
              have hN : ((ys.length : Int)).toNat = ds.length := by omega
              rw [hN]
              refine lc_range (lo := 0) (n := ds.length) (fun i H' => Same (upd H pp (.tup [.ty "tuple", .ty "list"])) H' ∧ H' D = some (.lst [])) ⟨new_same hD, upd_same⟩ (fun i H' hi hPv => ?_) (fun H' hPv => ?_)
              · obtain ⟨s1, hl⟩ := hPv
                have he : ds[i]? = some ds[i] := List.getElem?_eq_getElem hi
                obtain ⟨v1, e1, d1⟩ := dpa_get a1 he
                obtain ⟨v2, e2, d2⟩ := dpa_get a2 he
                have tf := same_tf s1
                have tf0 := (same_tf s0).trans tf
                have hr2 : AlOk m ds[i] := hp.2.2 _ (List.getElem_mem hi)
                have nl2 : NL ds[i] := nl_get' hp.2.1 hi
                refine ⟨rfl, ?_⟩
                refine ⟨_, rfl, _, rfl, p, xs, _, v1, rfl, rfl, tf.sq q1, at_of (j := i) (by omega) e1, _, rfl, _, rfl, q, ys, _, v2, rfl, rfl, tf.sq q2, at_of (j := i) (by omega) e2, ?_⟩
                exact ⟨v1, v2, ds[i], rfl, dp_nl tf0 _ _ nl2 d1, dp_nl tf0 _ _ nl2 d2, hr2, fun H2 s2 => ⟨true, rfl, iteF ⟨s1.trans s2, s2 _ _ hl⟩⟩⟩
              · obtain ⟨s1, hl⟩ := hPv
                refine ⟨(show 0 ≤ sizeLine by decide), fun E0' nE => ?_⟩
                have sE := new_same (o := .lst []) nE
                refine ⟨[], .lst (SqL.of (sE _ _ hl)) .nil, .lst (SqL.of upd_same) .nil, rfl, ?_⟩
                exact k _ ((s0.trans s1).trans sE)
end
end K51
set_option maxRecDepth 100000
set_option maxHeartbeats 4000000
/-! What a letter is, and how great. -/
namespace K51
open PySem PySem.Spec PyProof.Rows L2 KF KD
def prOk (p : Int) : Bool := decide (0 ≤ p) && decide (p ≤ 63)
def endOk (e : Option Int) (x : Int) : Bool := match e with
  | none => true
  | some g => decide (x ≤ g)
def Le.is (l : Le) : Bool := decide (0 ≤ l.house) && (decide (0 ≤ l.first) && (decide (l.row.length ≤ 32) && (l.row.all prOk && (endOk l.ends (l.first + (l.row.length : Nat)) && l.heard.all fun t => decide (0 ≤ t)))))
theorem can_ints : ∀ r : List Int, PyData.canLayAll0 (r.map .int) = true
  | [] => by simp [PyData.canLayAll0]
  | a :: r => by rw [List.map_cons, PyData.canLayAll0, can_ints r]; simp [PyData.canLay0]
theorem ints_dp {K : PySem.W.Frag} {H : Hp} : ∀ ns : List Int, DpAll K H (ns.map V.int) (ns.map PyData.int)
  | [] => .nil
  | _ :: ns => .cons (.int _) (ints_dp ns)
def oint : Option Int → PyData
  | none => .none
  | some n => .int n
def lpy (l : Le) : PyData := .tuple [.int l.house, .int l.first, .tuple (l.row.map .int), oint l.ends, .tuple (l.heard.map .int)]
theorem dp_le {K : PySem.W.Frag} {H : Hp} {v : V} {l : Le} (h : LeH K H v l) : Dp K H v (lpy l) := by
  obtain ⟨t, r, g, rfl, sq, sr, sg⟩ := h
  refine .tup sq (.cons (.int _) (.cons (.int _) (.cons (.tup sr (ints_dp _)) (.cons ?_ (.cons (.tup sg (ints_dp _)) .nil)))))
  cases l.ends with
  | none => exact .non
  | some e => exact .int e
theorem nl_ints : ∀ r : List Int, NLs (r.map .int)
  | [] => trivial
  | _ :: r => ⟨trivial, nl_ints r⟩
theorem nl_oint (e : Option Int) : NL (oint e) := by cases e <;> trivial
theorem al_oint (e : Option Int) : AlOk 1 (oint e) := by cases e <;> trivial
theorem al_ints {r : List Int} (h : r.length ≤ 1100) : AlOk 1 (.tuple (r.map .int)) := ⟨by rw [List.length_map]; exact h, nl_ints r, fun e he => by
  obtain ⟨i, _, rfl⟩ := List.mem_map.mp he
  trivial⟩
theorem al_le {l : Le} (h1 : l.row.length ≤ 1100) (h2 : l.heard.length ≤ 1100) : AlOk 2 (lpy l) := by
  refine ⟨(show 5 ≤ 1100 by decide), ⟨trivial, trivial, nl_ints _, nl_oint _, nl_ints _, trivial⟩, fun e he => ?_⟩
  simp only [List.mem_cons, List.not_mem_nil, or_false] at he
  rcases he with rfl | rfl | rfl | rfl | rfl
  · trivial
  · trivial
  · exact al_ints h1
  · exact al_oint _
  · exact al_ints h2
theorem theL_is {k : Kn} (ok : k.ok) {house first : Int} {hs : List Int} (h0 : 0 ≤ house) (h1 : 0 ≤ first) (hp : ∀ x ∈ hs, 0 ≤ x) : (theL k house first hs).is = true := by
  have l1 := rr_len k.row first 32
  have l2 : (rrun k.row first 32).all prOk = true := List.all_eq_true.mpr fun p hp => by
    obtain ⟨t, ht⟩ := rr_mem hp
    have := ok.rng _ ht
    unfold prOk
    rw [decide_eq_true (show 0 ≤ p from this.2.2.1), decide_eq_true (show p ≤ 63 from this.2.2.2)]
    rfl
  have l3 : endOk (theL k house first hs).ends (first + ((rrun k.row first 32).length : Nat)) = true := by
    unfold theL
    by_cases e : k.ends = some (first + ((rrun k.row first 32).length : Nat))
    · simp only [if_pos e]
      rw [e]
      exact decide_eq_true (Int.le_refl _)
    · simp only [if_neg e]
      rfl
  show (decide (0 ≤ house) && (decide (0 ≤ first) && (decide ((rrun k.row first 32).length ≤ 32) && ((rrun k.row first 32).all prOk && (endOk (theL k house first hs).ends (first + ((rrun k.row first 32).length : Nat)) && hs.all fun t => decide (0 ≤ t)))))) = true
  rw [decide_eq_true h0, decide_eq_true h1, decide_eq_true l1, l2, l3, List.all_eq_true.mpr fun x hx => decide_eq_true (hp x hx)]
  rfl
theorem lg {i : Int} (h : -1000000 ≤ i ∧ i ≤ 1000000) : i.natAbs.log2 < 100 := by
  have h2 : i.natAbs < 2 ^ 20 := by
    rw [show (2 : Nat) ^ 20 = 1048576 by decide]
    omega
  exact Nat.lt_of_lt_of_le (PySem.Flt.log2_lt_of (by decide) h2) (by decide)
def sm (i : Int) : Prop := -1000000 ≤ i ∧ i ≤ 1000000
structure Le.sm (l : Le) : Prop where
  house : K51.sm l.house
  first : K51.sm l.first
  row : l.row.length ≤ 36 ∧ ∀ p ∈ l.row, K51.sm p
  ends : ∀ e, l.ends = some e → K51.sm e
  heard : l.heard.length ≤ 8 ∧ ∀ p ∈ l.heard, K51.sm p
theorem rp_ints {r : List Int} (hl : r.length ≤ 40) (h : ∀ p ∈ r, sm p) : KQ.Rp 1 (.tuple (r.map .int)) := ⟨by rw [List.length_map]; exact hl, fun d hd => by
  obtain ⟨i, hi, rfl⟩ := List.mem_map.mp hd
  exact lg (h i hi)⟩
theorem rp_le {l : Le} (h : l.sm) : KQ.RpE (lpy l) := by
  refine ⟨2, by decide, (show 5 ≤ 40 by decide), fun d hd => ?_⟩
  simp only [List.mem_cons, List.not_mem_nil, or_false] at hd
  rcases hd with rfl | rfl | rfl | rfl | rfl
  · exact lg h.house
  · exact lg h.first
  · exact rp_ints (by have := h.row.1; omega) h.row.2
  · cases he : l.ends with
    | none => trivial
    | some e => exact lg (h.ends e he)
  · exact rp_ints (by have := h.heard.1; omega) h.heard.2
theorem rp_int {i : Int} (h : sm i) : KQ.RpE (.int i) := ⟨0, by decide, lg h⟩
theorem nl_le (l : Le) : NL (lpy l) := ⟨trivial, trivial, nl_ints _, nl_oint _, nl_ints _, trivial⟩
/-- the error of a class, with v as its value -/
def Err (K : PySem.W.Frag) (H : Hp) (x : Str) (v : V) (E : XK) : Prop := ∀ H' dx, Same H H' → H' dx = none → E (.ref (He.ga K x)) (some dx) (upd H' dx (.xd [(("value" : Str), v)]))
theorem Err.on {K : PySem.W.Frag} {H H1 : Hp} {x : Str} {v : V} {E : XK} (h : Err K H x v E) (s : Same H H1) : Err K H1 x v E := fun H' dx s2 n => h H' dx (s.trans s2) n
section
variable {P : Program} {w : World} {K : PySem.W.Frag} {mg : Str → Option Value} {base : Heap}
def spFz : Sp := fun vs H Q _ => ∃ n : Int, vs = [.int n] ∧ Q (.bl (decide (0 ≤ n))) H
theorem scFz : FnScope ["told"] ["told"] (defScope s_is_from_0) := ⟨rfl, rfl, rfl, by decide +kernel, rfl, by decide +kernel, by decide +kernel⟩
theorem ok_is_from_0 (T : Txt K w mg) : FnOk P w K mg base CX0 2 (He.fAd K ("_is_from_0", none)) (fdAt K (He.fAd K ("_is_from_0", none))) ["told"] spFz := by
  refine T.F_is_from_0.ok scFz (fun vs H Q E h => ?_) (fun cdv A outer s H vs Q E hr h => ?_)
  · obtain ⟨n, rfl, _⟩ := h
    rfl
  · obtain ⟨n, rfl, q⟩ := h
    refine ⟨_, PSs.nox (pss_one (ps_ret (pe_and (pe_call (ok_is_whole T) (hr.mono (by decide)) (by rfl) T.g_is_whole (T.F_is_whole).kp T.b_is_whole .nil pass0 (pa_cons (pv 0) pa_nil)) (pe_one (pe_cmpR op_ge (pv 0) pe_int (nomark _)))))), ?_⟩
    refine ⟨_, rfl, n, rfl, _, rfl, iteT ?_⟩
    exact ⟨_, rfl, _, _, rfl, rfl, q⟩
theorem all_map {α : Type} (f : α → Bool) : ∀ l : List α, ((l.map f).all id) = l.all f
  | [] => rfl
  | a :: l => by
    rw [List.map_cons, List.all_cons, List.all_cons, all_map f l]
    rfl
def spIs (K : PySem.W.Frag) : Sp := fun vs H Q _ => ∃ (v : V) (l : Le), vs = [v] ∧ LeH K H v l ∧ l.row.length ≤ 1000 ∧ l.heard.length ≤ 1000 ∧ ∀ H', Same H H' → Q (.bl l.is) H'
theorem scIs : FnScope ["told", "house", "first", "row", "ends", "heard", "press", "tick"] ["told"] (defScope s_is_letter) := ⟨rfl, rfl, rfl, by decide +kernel, rfl, by decide +kernel, by decide +kernel⟩
theorem ok_is_letter (T : Txt K w mg) : FnOk P w K mg base CX0 4 (He.fAd K ("is_letter", none)) (fdAt K (He.fAd K ("is_letter", none))) ["told"] (spIs K) := by
  obtain ⟨uM, gM, rM⟩ := T.c_MOST_PRESSES
  refine T.F_is_letter.ok scIs (fun vs H Q E h => ?_) (fun cdv A outer s H vs Q E hr h => ?_)
  · obtain ⟨v, l, rfl, _⟩ := h
    rfl
  · obtain ⟨v, l, rfl, ⟨t, r, g, rfl, sq, sr, sg⟩, hrl, hgl, kk⟩ := h
    refine ⟨_, PSs.nox (pss_cons (ps_if (PW.pt (pw_or (pt_not (pt_val (pe_callB (r := rIsi K) call_isi (by rfl) T.n_isinstance PyProof.Rows.Boot.«isinstance» (pa_cons (pv 0) (pa_cons (pe_bltn (v := .ty "tuple") (by rfl) T.n_tuple PyProof.Rows.Boot.«tuple» rfl) pa_nil))))) (pw_or1 (pt_cmpR op_ne (pe_callB (r := Evl.rLenS K) call_len_seq (by rfl) T.n_len PyProof.Rows.Boot.«len» (pa_cons (pv 0) pa_nil)) pe_int (nomark _))))) (pss_one (ps_ret pe_bl)) pss_nil)
      (pss_cons (ps_asg (pv 0) (pg_tup (by rfl) (pgs_cons (pg_name (i := 1) scIs.nd rfl (Or.inl rfl)) (pgs_cons (pg_name (i := 2) scIs.nd rfl (Or.inl rfl)) (pgs_cons (pg_name (i := 3) scIs.nd rfl (Or.inl rfl)) (pgs_cons (pg_name (i := 4) scIs.nd rfl (Or.inl rfl)) (pgs_cons (pg_name (i := 5) scIs.nd rfl (Or.inl rfl)) pgs_nil)))))))
      (pss_cons (ps_if (PW.pt (pw_or (pt_not (pt_val (pe_call (ok_is_from_0 T) (hr.mono (by decide)) (by rfl) T.g_is_from_0 (T.F_is_from_0).kp T.b_is_from_0 .nil pass0 (pa_cons (pv 1) pa_nil)))) (pw_or (pt_not (pt_val (pe_call (ok_is_from_0 T) (hr.mono (by decide)) (by rfl) T.g_is_from_0 (T.F_is_from_0).kp T.b_is_from_0 .nil pass0 (pa_cons (pv 2) pa_nil)))) (pw_or (pt_not (pt_val (pe_callB (r := rIsi K) call_isi (by rfl) T.n_isinstance PyProof.Rows.Boot.«isinstance» (pa_cons (pv 3) (pa_cons (pe_bltn (v := .ty "tuple") (by rfl) T.n_tuple PyProof.Rows.Boot.«tuple» rfl) pa_nil))))) (pw_or1 (pt_cmpR op_gt (pe_callB (r := Evl.rLenS K) call_len_seq (by rfl) T.n_len PyProof.Rows.Boot.«len» (pa_cons (pv 3) pa_nil)) (pe_glob (v := .int 32) (by rfl) gM rM) (nomark _))))))) (pss_one (ps_ret pe_bl)) pss_nil)
      (pss_cons (ps_if (pt_not (pt_val (pe_callB (cr_all rfl) (by rfl) T.n_all PyProof.Rows.Boot.«all» (pa_cons (pe_lc (own := [("press", 6)]) (g := gName 6) (tt := tYes) (by rfl) scIs.nd (pi_tup (pv 3)) (blkOk_by (own := [("press", 6)]) (N := ["told", "house", "first", "row", "ends", "heard", "press", "tick"]) (sc := defScope s_is_letter) (by decide +kernel)) (fun _ _ _ _ _ => pg_name (i := 6) scIs.nd rfl (Or.inl rfl)) (fun _ _ _ _ _ => pts_nil) (fun _ _ _ _ _ => (pe_call (ok_is_press_g T) (hr.mono (by decide)) (by rfl) T.g_is_press (T.F_is_press).kp T.b_is_press .nil pass0 (pa_cons (pv 6) pa_nil)))) pa_nil)))) (pss_one (ps_ret pe_bl)) pss_nil)
      (pss_cons (ps_if (PW.pt (pw_and (pt_cmpR op_notN (pv 4) pe_non (nomark _)) (pw_and1 (pt_not (PW.pt (pw_and (pt_val (pe_call (ok_is_whole T) (hr.mono (by decide)) (by rfl) T.g_is_whole (T.F_is_whole).kp T.b_is_whole .nil pass0 (pa_cons (pv 4) pa_nil))) (pw_and1 (pt_cmpR op_ge (pv 4) (pe_op op_add (pv 2) (pe_callB (r := Evl.rLenS K) call_len_seq (by rfl) T.n_len PyProof.Rows.Boot.«len» (pa_cons (pv 3) pa_nil))) (nomark _))))))))) (pss_one (ps_ret pe_bl)) pss_nil)
      (pss_one (ps_ret (pe_and (pe_callB (r := rIsi K) call_isi (by rfl) T.n_isinstance PyProof.Rows.Boot.«isinstance» (pa_cons (pv 5) (pa_cons (pe_bltn (v := .ty "tuple") (by rfl) T.n_tuple PyProof.Rows.Boot.«tuple» rfl) pa_nil))) (pe_one (pe_callB (cr_all rfl) (by rfl) T.n_all PyProof.Rows.Boot.«all» (pa_cons (pe_lc (own := [("tick", 7)]) (g := gName 7) (tt := tYes) (by rfl) scIs.nd (pi_tup (pv 5)) (blkOk_by (own := [("tick", 7)]) (N := ["told", "house", "first", "row", "ends", "heard", "press", "tick"]) (sc := defScope s_is_letter) (by decide +kernel)) (fun _ _ _ _ _ => pg_name (i := 7) scIs.nd rfl (Or.inl rfl)) (fun _ _ _ _ _ => pts_nil) (fun _ _ _ _ _ => (pe_call (ok_is_from_0 T) (hr.mono (by decide)) (by rfl) T.g_is_from_0 (T.F_is_from_0).kp T.b_is_from_0 .nil pass0 (pa_cons (pv 7) pa_nil)))) pa_nil))))))))))), ?_⟩
    have kf : l.is = false → ∀ H', Same H H' → Q (.bl false) H' := fun h H' s => by
      have := kk H' s
      rw [h] at this
      exact this
    refine ⟨_, rfl, _, _, _, _, _, rfl, .ty "tuple", ty_tup sq, kit_ty (r := true) (by decide +kernel), _, rfl, iteF ?_⟩
    refine ⟨_, rfl, _, _, rfl, .inr sq, rfl, _, rfl, iteNS rfl ?_⟩
    refine ⟨_, rfl, t, _, rfl, sq, rfl, _, _, rfl, _, _, rfl, _, _, rfl, _, _, rfl, _, _, rfl, rfl, ?_⟩
    refine ⟨_, rfl, _, rfl, _, rfl, ?_⟩
    cases c1 : decide (0 ≤ l.house) with
    | false => exact iteT (iteT (kf (by unfold Le.is; rw [c1]; rfl) H (Same.refl H)))
    | true =>
      refine iteF ⟨_, rfl, _, rfl, _, rfl, ?_⟩
      cases c2 : decide (0 ≤ l.first) with
      | false => exact iteT (iteT (kf (by unfold Le.is; rw [c1, c2]; rfl) H (Same.refl H)))
      | true =>
        refine iteF ⟨_, rfl, _, _, _, _, _, rfl, .ty "tuple", ty_tup sr, kit_ty (r := true) (by decide +kernel), _, rfl, iteF ?_⟩
        refine ⟨_, rfl, r, _, rfl, .inr sr, _, _, rfl, rfl, _, rfl, ?_⟩
        rw [List.length_map]
        refine ite2 (fun z => ?_) (fun z => ?_)
        · have hz : (l.row.length : Int) > 32 := of_decide_eq_true z
          exact kf (by unfold Le.is; rw [c1, c2, decide_eq_false (show ¬ l.row.length ≤ 32 by omega)]; rfl) H (Same.refl H)
        have c3 : decide (l.row.length ≤ 32) = true := by
          have hz : ¬ (l.row.length : Int) > 32 := fun q => z (decide_eq_true q)
          exact decide_eq_true (by omega)
        refine ⟨_, rfl, r, rfl, ⟨_, sr⟩, fun D hD => ?_⟩
        refine lc_tup (xs := l.row.map V.int) (fun i H' => Same H H' ∧ H' D = some (.lst (((l.row.take i).map prOk).map V.bl))) ⟨new_same hD, upd_same⟩ (fun i H' _ h => (same_tf h.1).sq sr) (fun i x H' hx h => ?_) (fun H1 h => ?_)
        · obtain ⟨sm, hacc⟩ := h
          rw [List.getElem?_map] at hx
          cases hp : l.row[i]? with
          | none => rw [hp] at hx; cases hx
          | some p =>
            rw [hp] at hx
            cases hx
            have hi := (List.getElem?_eq_some_iff.mp hp).1
            refine ⟨rfl, ?_⟩
            dsimp only [tYes]
            rw [if_pos rfl]
            refine ⟨_, rfl, p, rfl, _, hacc, by rw [List.length_map, List.length_map, List.length_take]; exact Nat.lt_of_lt_of_le (show min i l.row.length < 1001 by omega) (by decide), fun b o z => ?_, ?_⟩
            · rw [upd_ne (ne_of_none z hD)]
              exact sm _ _ z
            · rw [upd_same, List.take_add_one, hp, List.map_append, List.map_append]
              rfl
        obtain ⟨s1, hacc⟩ := h
        rw [List.length_map, List.take_length] at hacc
        refine ⟨D, _, rfl, SqL.of hacc, _, rfl, ?_⟩
        rw [all_map]
        cases c4 : l.row.all prOk with
        | false => exact iteT (kf (by unfold Le.is; rw [c1, c2, c3, c4]; rfl) H1 s1)
        | true =>
          refine iteF ?_
          have sr1 := (same_tf s1).sq sr
          have sg1 := (same_tf s1).sq sg
          dsimp only [tNext]
          refine seq_cut (fun σ H2 => σ = [some (.ref t), some (.int l.house), some (.int l.first), some (.ref r), some (ov l.ends), some (.ref g), none, none] ∧ H2 = H1 ∧ endOk l.ends (l.first + (l.row.length : Nat)) = true) (fun σ H2 h => ?_) (fun R hR => ?_)
          · obtain ⟨rfl, rfl, c5⟩ := h
            refine ⟨_, rfl, _, _, _, _, _, rfl, .ty "tuple", ty_tup sg1, kit_ty (r := true) (by decide +kernel), _, rfl, iteT ?_⟩
            refine ⟨_, rfl, g, rfl, ⟨_, sg1⟩, fun D2 hD2 => ?_⟩
            refine lc_tup (xs := l.heard.map V.int) (fun i H' => Same H2 H' ∧ H' D2 = some (.lst (((l.heard.take i).map fun t => decide (0 ≤ t)).map V.bl))) ⟨new_same hD2, upd_same⟩ (fun i H' _ h => (same_tf h.1).sq sg1) (fun i x H' hx h => ?_) (fun H3 h => ?_)
            · obtain ⟨sm, hacc⟩ := h
              rw [List.getElem?_map] at hx
              cases hp : l.heard[i]? with
              | none => rw [hp] at hx; cases hx
              | some p =>
                rw [hp] at hx
                cases hx
                have hi := (List.getElem?_eq_some_iff.mp hp).1
                refine ⟨rfl, ?_⟩
                dsimp only [tYes]
                rw [if_pos rfl]
                refine ⟨_, rfl, p, rfl, _, hacc, by rw [List.length_map, List.length_map, List.length_take]; exact Nat.lt_of_lt_of_le (show min i l.heard.length < 1001 by omega) (by decide), fun b o z => ?_, ?_⟩
                · rw [upd_ne (ne_of_none z hD2)]
                  exact sm _ _ z
                · rw [upd_same, List.take_add_one, hp, List.map_append, List.map_append]
                  rfl
            obtain ⟨s3, hacc3⟩ := h
            rw [List.length_map, List.take_length] at hacc3
            refine ⟨D2, _, rfl, SqL.of hacc3, ?_⟩
            rw [all_map]
            have := kk H3 (s1.trans s3)
            unfold Le.is at this
            rw [c1, c2, c3, c4, c5] at this
            exact this
          · cases he : l.ends with
            | none =>
              have e1 : endOk l.ends (l.first + (l.row.length : Nat)) = true := by rw [he]; rfl
              exact ⟨_, rfl, rfl, _, rfl, iteF (hR _ _ ⟨by rw [he]; rfl, rfl, e1⟩)⟩
            | some e =>
              refine ⟨_, rfl, rfl, _, rfl, iteT ⟨_, rfl, e, rfl, _, rfl, iteT ?_⟩⟩
              refine ⟨_, rfl, _, rfl, _, rfl, r, _, rfl, .inr sr1, _, _, rfl, rfl, _, _, rfl, rfl, _, rfl, ?_⟩
              rw [List.length_map]
              cases c5 : decide (l.first + (l.row.length : Nat) ≤ e) with
              | true => exact iteF (hR _ _ ⟨by rw [he]; rfl, rfl, by rw [he]; exact c5⟩)
              | false => exact iteT (kf (by unfold Le.is; rw [c1, c2, c3, c4, he]; show (true && (true && (true && (true && (decide _ && _))))) = false; rw [c5]; rfl) H1 s1)
def spNl (K : PySem.W.Frag) : Sp := fun vs H Q E => ∃ (v : V) (l : Le), vs = [v] ∧ LeH K H v l ∧ l.sm ∧ (l.is = true → ∀ H', Same H H' → Q .non H') ∧ (l.is = false → Err K H "InvalidLetter" v E)
theorem scNl : FnScope ["letter"] ["letter"] (defScope s_need_letter) := ⟨rfl, rfl, rfl, by decide +kernel, rfl, by decide +kernel, by decide +kernel⟩
theorem ok_need_letter (T : Txt K w mg) : FnOk P w K mg base (L2.CX P w) 5 (He.fAd K ("_need_letter", none)) (fdAt K (He.fAd K ("_need_letter", none))) ["letter"] (spNl K) := by
  have c0 := cf_of T.ex (x := "InvalidLetter") (by decide +kernel)
  have tI := tI_of T.ex
  have GI : FnOk P w K mg base CX0 1 (iAd K) (fdAt K (iAd K)) ["self", "value"] (spInit K) := ok_init T
  have bI : Binds K (fdAt K (iAd K)) ["self", "value"] [] := T.b_GameError_init
  refine T.F_need_letter.ok scNl (fun vs H Q E h => ?_) (fun cdv A outer s H vs Q E hr h => ?_)
  · obtain ⟨v, l, rfl, _⟩ := h
    rfl
  · obtain ⟨v, l, rfl, hl, hs, kg, kb⟩ := h
    have hr1 : Room 2 _ := hr.mono (by decide)
    have h1 := hs.row.1
    have h2 := hs.heard.1
    refine ⟨_, (pss_one (ps_if (pt_not (pt_val (pe_call (ok_is_letter T) (hr.mono (by decide)) (by rfl) T.g_is_letter (T.F_is_letter).kp T.b_is_letter .nil pass0 (pa_cons (pv 0) pa_nil)))) (pss_one (ps_raise rfl (takes_of rfl rfl rfl rfl) (pmk_oex c0.oex c0.ini tI GI hr1 bI .nil pass0 (by rfl) T.g_InvalidLetter (pa_cons (pv 0) pa_nil)))) pss_nil)), ?_⟩
    refine ⟨_, rfl, v, l, rfl, hl, by omega, by omega, fun H' s => ⟨_, rfl, ?_⟩⟩
    cases hi : l.is with
    | true => exact iteF (kg hi H' s)
    | false =>
      refine iteT ⟨_, rfl, (show 1 ≤ 1000 by decide), ?_⟩
      exact made c0 (dp_le (hl.tf (same_tf s))) (rp_le hs) (nl_le l) (fun dx hdx => kb hi H' dx s hdx)
def sizeL (l : Le) : Int := 8 + 16 * (2 + (l.heard.length : Int)) + 6 * (l.row.length : Int) + 6
def spSz (K : PySem.W.Frag) : Sp := fun vs H Q E => ∃ (v : V) (l : Le), vs = [v] ∧ LeH K H v l ∧ l.sm ∧ (l.is = true → ∀ H', Same H H' → Q (.int (sizeL l)) H') ∧ (l.is = false → Err K H "InvalidLetter" v E)
theorem scSz : FnScope ["letter", "ticks"] ["letter"] (defScope s_size_in_bits) := ⟨rfl, rfl, rfl, by decide +kernel, rfl, by decide +kernel, by decide +kernel⟩
theorem ok_size_in_bits (T : Txt K w mg) : FnOk P w K mg base (L2.CX P w) 6 (He.fAd K ("size_in_bits", none)) (fdAt K (He.fAd K ("size_in_bits", none))) ["letter"] (spSz K) := by
  obtain ⟨u1, g1, r1⟩ := T.c_BITS_OF_HOUSE
  obtain ⟨u2, g2, r2⟩ := T.c_BITS_OF_TICK
  obtain ⟨u3, g3, r3⟩ := T.c_BITS_OF_PRESS
  obtain ⟨u4, g4, r4⟩ := T.c_BITS_OF_LENGTH
  refine T.F_size_in_bits.ok scSz (fun vs H Q E h => ?_) (fun cdv A outer s H vs Q E hr h => ?_)
  · obtain ⟨v, l, rfl, _⟩ := h
    rfl
  · obtain ⟨v, l, rfl, hl, hs, kg, kb⟩ := h
    obtain ⟨t, r, g, rfl, sq, sr, sg⟩ := id hl
    have h1 := hs.row.1
    have h2 := hs.heard.1
    refine ⟨_, (pss_cons (ps_expr (pe_callS (ok_need_letter T) (hr.mono (by decide)) (by rfl) T.g_need_letter T.F_need_letter.kp T.b_need_letter (fun σ => passAt (takes_of rfl rfl rfl rfl) σ) (pa_cons (pv 0) pa_nil)))
      (pss_cons (ps_set (i := 1) scSz.nd rfl (Or.inl rfl) (pe_op op_add pe_int (pe_callB (r := Evl.rLenS K) call_len_seq (by rfl) T.n_len PyProof.Rows.Boot.«len» (pa_cons (pe_ix (r := rIxT K) ix_tup (pv 0) pe_int (fun _ _ => rfl)) pa_nil))))
      (pss_one (ps_ret (pe_op op_add (pe_op op_add (pe_op op_add (pe_glob (v := .int 8) (by rfl) g1 r1) (pe_op op_mulW (pe_glob (v := .int 16) (by rfl) g2 r2) (pv 1))) (pe_op op_mulW (pe_glob (v := .int 6) (by rfl) g3 r3) (pe_callB (r := Evl.rLenS K) call_len_seq (by rfl) T.n_len PyProof.Rows.Boot.«len» (pa_cons (pe_ix (r := rIxT K) ix_tup (pv 0) pe_int (fun _ _ => rfl)) pa_nil)))) (pe_glob (v := .int 6) (by rfl) g4 r4)))))), ?_⟩
    refine ⟨_, rfl, .ref t, l, rfl, hl, hs, fun his H1 s1 => ?_, fun his => kb his⟩
    have t1 := same_tf s1
    refine ⟨_, rfl, t, _, _, _, rfl, rfl, t1.sq sq, atI_nat (j := 4) rfl, g, _, rfl, .inr (t1.sq sg), _, _, rfl, rfl, ?_⟩
    rw [List.length_map]
    have m1 : CMulW 16 (2 + (l.heard.length : Int)) := wide_mul (a := 40) (b := 40) (by decide) (small_ab (by omega) (by rw [pow40]; omega)) (by decide) (by decide) (by decide)
    have m2 : CMulW 6 (l.row.length : Int) := wide_mul (a := 40) (b := 40) (by decide) (small_ab (by omega) (by rw [pow40]; omega)) (by decide) (by decide) (by decide)
    refine ⟨_, rfl, _, _, rfl, rfl, m1, _, _, rfl, rfl, _, rfl, t, _, _, _, rfl, rfl, t1.sq sq, atI_nat (j := 2) rfl, r, _, rfl, .inr (t1.sq sr), ?_⟩
    rw [List.length_map]
    exact ⟨_, _, rfl, rfl, m2, _, _, rfl, rfl, _, _, rfl, rfl, kg his H1 s1⟩
end
end K51
set_option maxRecDepth 100000
set_option maxHeartbeats 4000000
/-! The bag; letters asked with wrong things. -/
namespace K51
open PySem PySem.Spec PyProof.Rows L2 KF KD
theorem cut_toV {xs : List V} {k : Nat} (h : k ≤ xs.length) : cutV xs none (some (k : Int)) = xs.take k := by
  unfold cutV
  rw [HT.sIx_none, HT.sIx_nat, Nat.min_eq_left h, List.drop_zero, Nat.sub_zero]
theorem cut_fromV {xs : List V} {k : Nat} (h : k ≤ xs.length) : cutV xs (some (k : Int)) none = xs.drop k := by
  unfold cutV
  rw [HT.sIx_none, HT.sIx_nat, Nat.min_eq_left h]
  exact List.take_of_length_le (by rw [List.length_drop]; exact Nat.le_refl _)
theorem catV {K : PySem.W.Frag} {H : Hp} {a b : Addr} {xs ys : List V} {Q : VK} (ha : SqT K H a xs) (hb : SqT K H b ys) (hl : xs.length + ys.length ≤ 1000) (q : ∀ u H', Same H H' → SqT K H' u (xs ++ ys) → Q (.ref u) H') : rCatA K (.ref a) (.ref b) H Q := by
  refine ⟨a, b, _, _, rfl, rfl, ha, hb, Nat.le_trans hl (by decide), fun e => ?_, fun _ e => ?_, fun _ _ p np => ?_⟩
  · subst e
    exact q b H (Same.refl H) hb
  · subst e
    rw [List.append_nil] at q
    exact q a H (Same.refl H) ha
  · exact q p _ (new_same np) (SqT.of upd_same)
theorem slV {K : PySem.W.Frag} {H : Hp} {a : Addr} {xs : List V} {lo hi : Option Int} {Q : VK} (ha : SqT K H a xs) (q : ∀ u H', Same H H' → SqT K H' u (cutV xs lo hi) → Q (.ref u) H') : rSlA K (.ref a) lo hi H Q := by
  refine ⟨a, _, rfl, ha, fun ⟨h1, h2⟩ => q a H (Same.refl H) ?_, fun _ p np => q p _ (new_same np) (SqT.of upd_same)⟩
  have e : cutV xs lo hi = xs := by
    unfold cutV
    rw [h1, h2, List.drop_zero, Nat.sub_zero, List.take_length]
  rw [e]
  exact ha
section
variable {P : Program} {w : World} {K : PySem.W.Frag} {mg : Str → Option Value} {base : Heap}
def spPut (K : PySem.W.Frag) : Sp := fun vs H Q E => ∃ (a : Addr) (to : Int) (v : V) (l : Le) (ws : List V), vs = [.ref a, .int to, v] ∧ SqT K H a ws ∧ ws.length ≤ 100 ∧ sm to ∧ LeH K H v l ∧ l.sm ∧
  (l.is = true → 0 ≤ to → ∀ (u p : Addr) H', Same H H' → SqT K H' p [.int to, v] → SqT K H' u (ws ++ [.ref p]) → Q (.ref u) H') ∧ (l.is = false → Err K H "InvalidLetter" v E) ∧ (l.is = true → to < 0 → Err K H "InvalidHouse" (.int to) E)
theorem scPu : FnScope ["bag", "to", "letter"] ["bag", "to", "letter"] (defScope s_put) := ⟨rfl, rfl, rfl, by decide +kernel, rfl, by decide +kernel, by decide +kernel⟩
theorem ok_put (T : Txt K w mg) : FnOk P w K mg base (L2.CX P w) 6 (He.fAd K ("put", none)) (fdAt K (He.fAd K ("put", none))) ["bag", "to", "letter"] (spPut K) := by
  have cInvalidHouse := cf_of T.ex (x := "InvalidHouse") (by decide +kernel)
  have tI := tI_of T.ex
  have GI : FnOk P w K mg base CX0 1 (iAd K) (fdAt K (iAd K)) ["self", "value"] (spInit K) := ok_init T
  have bI : Binds K (fdAt K (iAd K)) ["self", "value"] [] := T.b_GameError_init
  refine T.F_put.ok scPu (fun vs H Q E h => ?_) (fun cdv A outer s H vs Q E hr h => ?_)
  · obtain ⟨a, to, v, l, ws, rfl, _⟩ := h
    rfl
  · obtain ⟨a, to, v, l, ws, rfl, sa, hw, hto, hl, hs, kg, kb, kh⟩ := h
    have hr1 : Room 2 _ := hr.mono (by decide)
    refine ⟨_, (pss_cons (ps_expr (pe_callS (ok_need_letter T) (hr.mono (by decide)) (by rfl) T.g_need_letter T.F_need_letter.kp T.b_need_letter (fun σ => passAt (takes_of rfl rfl rfl rfl) σ) (pa_cons (pv 2) pa_nil)))
      (pss_cons (ps_if (pt_cmpR op_lt (pv 1) pe_int (nomark _)) (pss_one (ps_raise rfl (takes_of rfl rfl rfl rfl) (pmk_oex cInvalidHouse.oex cInvalidHouse.ini tI GI hr1 bI .nil pass0 (by rfl) T.g_InvalidHouse (pa_cons (pv 1) pa_nil)))) pss_nil)
      (pss_one (ps_ret (pe_op (show OpR _ _ (rCatA K) from op_catA) (pv 0) (pe_tup (pa_cons (pe_tup (pa_cons (pv 1) (pa_cons (pv 2) pa_nil))) pa_nil))))))), ?_⟩
    refine ⟨_, rfl, v, l, rfl, hl, hs, fun his H1 s1 => ?_, fun his => kb his⟩
    refine ⟨_, rfl, _, _, rfl, rfl, _, rfl, ite2 (fun z => ?_) (fun z => ?_)⟩
    · refine ⟨_, rfl, (show 1 ≤ 1000 by decide), ?_⟩
      exact made cInvalidHouse (.int to) (rp_int hto) trivial (fun dx hdx => kh his (of_decide_eq_true z) H1 dx s1 hdx)
    · have hz : ¬ to < 0 := fun q => z (decide_eq_true q)
      refine ⟨_, rfl, _, rfl, _, rfl, (show 2 ≤ sizeLine by decide), fun p np => ⟨(show 1 ≤ sizeLine by decide), fun q nq => ?_⟩⟩
      have s2 := new_same (o := .tup [.int to, v]) np
      have s3 := new_same (o := .tup [.ref p]) nq
      have s13 := (s1.trans s2).trans s3
      exact catV ((same_tf s13).sq sa) (SqT.of upd_same) (by simp; omega) (fun u H4 s4 q4 => kg his (by omega) u p H4 (s13.trans s4) ((same_tf (s3.trans s4)).sq (SqT.of upd_same)) q4)
def spNp (K : PySem.W.Frag) : Sp := fun vs H Q E => ∃ (a : Addr) (k : Int) (ws : List V), vs = [.ref a, .int k] ∧ SqT K H a ws ∧ sm k ∧ (0 ≤ k → k < ws.length → Q .non H) ∧ (¬ (0 ≤ k ∧ k < ws.length) → Err K H "InvalidPlace" (.int k) E)
theorem scNp : FnScope ["bag", "k"] ["bag", "k"] (defScope s_need_place) := ⟨rfl, rfl, rfl, by decide +kernel, rfl, by decide +kernel, by decide +kernel⟩
theorem ok_need_place (T : Txt K w mg) : FnOk P w K mg base (L2.CX P w) 3 (He.fAd K ("_need_place", none)) (fdAt K (He.fAd K ("_need_place", none))) ["bag", "k"] (spNp K) := by
  have cInvalidPlace := cf_of T.ex (x := "InvalidPlace") (by decide +kernel)
  have tI := tI_of T.ex
  have GI : FnOk P w K mg base CX0 1 (iAd K) (fdAt K (iAd K)) ["self", "value"] (spInit K) := ok_init T
  have bI : Binds K (fdAt K (iAd K)) ["self", "value"] [] := T.b_GameError_init
  refine T.F_need_place.ok scNp (fun vs H Q E h => ?_) (fun cdv A outer s H vs Q E hr h => ?_)
  · obtain ⟨a, k, ws, rfl, _⟩ := h
    rfl
  · obtain ⟨a, k, ws, rfl, sa, hk, kg, kb⟩ := h
    have hr1 : Room 2 _ := hr.mono (by decide)
    refine ⟨_, (pss_one (ps_if (pt_not (pt_val (pe_call (ok_is_between_g T) (hr.mono (by omega)) (by rfl) T.g_is_between (T.F_is_between).kp T.b_is_between .nil pass0 (pa_cons (pv 1) (pa_cons pe_int (pa_cons (pe_op op_sub (pe_callB (r := Evl.rLenS K) call_len_seq (by rfl) T.n_len PyProof.Rows.Boot.«len» (pa_cons (pv 0) pa_nil)) pe_int) pa_nil)))))) (pss_one (ps_raise rfl (takes_of rfl rfl rfl rfl) (pmk_oex cInvalidPlace.oex cInvalidPlace.ini tI GI hr1 bI .nil pass0 (by rfl) T.g_InvalidPlace (pa_cons (pv 1) pa_nil)))) pss_nil)), ?_⟩
    refine ⟨_, rfl, _, rfl, a, _, rfl, .inr sa, _, _, rfl, rfl, k, 0, _, rfl, _, rfl, ?_⟩
    cases c : (decide (0 ≤ k) && decide (k ≤ (ws.length : Int) - 1)) with
    | true =>
      obtain ⟨c1, c2⟩ := and2 c
      have c1 := of_decide_eq_true c1
      have c2 := of_decide_eq_true c2
      exact iteF (kg c1 (by omega))
    | false =>
      refine iteT ⟨_, rfl, (show 1 ≤ 1000 by decide), ?_⟩
      refine made cInvalidPlace (.int k) (rp_int hk) trivial (fun dx hdx => kb (fun ⟨q1, q2⟩ => ?_) H dx (Same.refl H) hdx)
      rw [decide_eq_true q1, decide_eq_true (show k ≤ (ws.length : Int) - 1 by omega)] at c
      cases c
def spTk (K : PySem.W.Frag) : Sp := fun vs H Q E => ∃ (a : Addr) (k : Int) (ws : List V), vs = [.ref a, .int k] ∧ SqT K H a ws ∧ ws.length ≤ 100 ∧ sm k ∧
  (∀ (n : Nat) x, k = (n : Int) → ws[n]? = some x → ∀ (u r : Addr) H', Same H H' → SqT K H' u [x, .ref r] → SqT K H' r (ws.take n ++ ws.drop (n + 1)) → Q (.ref u) H') ∧ (¬ (0 ≤ k ∧ k < ws.length) → Err K H "InvalidPlace" (.int k) E)
theorem place {k : Int} {ws : List V} : (∃ (n : Nat) (x : V), k = (n : Int) ∧ ws[n]? = some x ∧ n < ws.length) ∨ ¬ (0 ≤ k ∧ k < ws.length) := by
  by_cases h : 0 ≤ k ∧ k < ws.length
  · have h2 : k.toNat < ws.length := by omega
    exact .inl ⟨k.toNat, ws[k.toNat], by omega, List.getElem?_eq_getElem h2, h2⟩
  · exact .inr h
theorem scTa : FnScope ["bag", "k"] ["bag", "k"] (defScope s_taken) := ⟨rfl, rfl, rfl, by decide +kernel, rfl, by decide +kernel, by decide +kernel⟩
theorem ok_taken (T : Txt K w mg) : FnOk P w K mg base (L2.CX P w) 4 (He.fAd K ("taken", none)) (fdAt K (He.fAd K ("taken", none))) ["bag", "k"] (spTk K) := by
  refine T.F_taken.ok scTa (fun vs H Q E h => ?_) (fun cdv A outer s H vs Q E hr h => ?_)
  · obtain ⟨a, k, ws, rfl, _⟩ := h
    rfl
  · obtain ⟨a, k, ws, rfl, sa, hw, hk, kg, kb⟩ := h
    refine ⟨_, (pss_cons (ps_expr (pe_callS (ok_need_place T) (hr.mono (by decide)) (by rfl) T.g_need_place T.F_need_place.kp T.b_need_place (fun σ => passAt (takes_of rfl rfl rfl rfl) σ) (pa_cons (pv 0) (pa_cons (pv 1) pa_nil))))
      (pss_one (ps_ret (pe_tup (pa_cons (pe_ix (r := rIxT K) ix_tup (pv 0) (pv 1) (fun _ _ => rfl)) (pa_cons (pe_op (show OpR _ _ (rCatA K) from op_catA) (pe_slice (show SlR _ (rSlA K) from sl_tupA) (pv 0) po_none (po_some (pv 1))) (pe_slice (show SlR _ (rSlA K) from sl_tupA) (pv 0) (po_some (pe_op op_add (pv 1) pe_int)) po_none)) pa_nil)))))), ?_⟩
    refine ⟨_, rfl, _, rfl, a, k, ws, rfl, sa, hk, fun h0 h1 => ?_, kb⟩
    rcases place (k := k) (ws := ws) with ⟨n, x, rfl, hx, hn⟩ | hno
    · refine ⟨_, rfl, _, rfl, a, _, _, _, rfl, rfl, sa, atI_nat hx, ?_⟩
      refine ⟨_, rfl, _, rfl, _, rfl, slV sa (fun u1 H1 s1 q1 => ?_)⟩
      rw [cut_toV (by omega)] at q1
      refine ⟨_, rfl, _, rfl, _, _, rfl, rfl, _, rfl, ?_⟩
      dsimp only [tNoPart]
      refine slV ((same_tf s1).sq sa) (fun u2 H2 s2 q2 => ?_)
      rw [show (n : Int) + 1 = ((n + 1 : Nat) : Int) by omega, cut_fromV (by omega)] at q2
      refine catV ((same_tf s2).sq q1) q2 (by rw [List.length_take, List.length_drop]; omega) (fun u3 H3 s3 q3 => ⟨(show 2 ≤ sizeLine by decide), fun u nu => ?_⟩)
      have s4 := new_same (o := .tup [x, .ref u3]) nu
      exact kg n x rfl hx u u3 _ (((s1.trans s2).trans s3).trans s4) (SqT.of upd_same) ((same_tf s4).sq q3)
    · exact absurd ⟨h0, h1⟩ hno
def spDb (K : PySem.W.Frag) : Sp := fun vs H Q E => ∃ (a : Addr) (k : Int) (ws : List V), vs = [.ref a, .int k] ∧ SqT K H a ws ∧ ws.length ≤ 100 ∧ sm k ∧
  (∀ (n : Nat) x, k = (n : Int) → ws[n]? = some x → ∀ (u : Addr) H', Same H H' → SqT K H' u (ws ++ [x]) → Q (.ref u) H') ∧ (¬ (0 ≤ k ∧ k < ws.length) → Err K H "InvalidPlace" (.int k) E)
theorem scDb : FnScope ["bag", "k"] ["bag", "k"] (defScope s_doubled) := ⟨rfl, rfl, rfl, by decide +kernel, rfl, by decide +kernel, by decide +kernel⟩
theorem ok_doubled (T : Txt K w mg) : FnOk P w K mg base (L2.CX P w) 4 (He.fAd K ("doubled", none)) (fdAt K (He.fAd K ("doubled", none))) ["bag", "k"] (spDb K) := by
  refine T.F_doubled.ok scDb (fun vs H Q E h => ?_) (fun cdv A outer s H vs Q E hr h => ?_)
  · obtain ⟨a, k, ws, rfl, _⟩ := h
    rfl
  · obtain ⟨a, k, ws, rfl, sa, hw, hk, kg, kb⟩ := h
    refine ⟨_, (pss_cons (ps_expr (pe_callS (ok_need_place T) (hr.mono (by decide)) (by rfl) T.g_need_place T.F_need_place.kp T.b_need_place (fun σ => passAt (takes_of rfl rfl rfl rfl) σ) (pa_cons (pv 0) (pa_cons (pv 1) pa_nil))))
      (pss_one (ps_ret (pe_op (show OpR _ _ (rCatA K) from op_catA) (pv 0) (pe_tup (pa_cons (pe_ix (r := rIxT K) ix_tup (pv 0) (pv 1) (fun _ _ => rfl)) pa_nil)))))), ?_⟩
    refine ⟨_, rfl, _, rfl, a, k, ws, rfl, sa, hk, fun h0 h1 => ?_, kb⟩
    rcases place (k := k) (ws := ws) with ⟨n, x, rfl, hx, hn⟩ | hno
    · refine ⟨_, rfl, _, rfl, _, rfl, a, _, _, _, rfl, rfl, sa, atI_nat hx, (show 1 ≤ sizeLine by decide), fun p np => ?_⟩
      have s1 := new_same (o := .tup [x]) np
      exact catV ((same_tf s1).sq sa) (SqT.of upd_same) (by simp; omega) (fun u H2 s2 q2 => kg n x rfl hx u H2 (s1.trans s2) q2)
    · exact absurd ⟨h0, h1⟩ hno
/-- known, as data -/
def epy (e : Int × Int) : PyData := .tuple [.int e.1, .int e.2]
def kpy (k : Kn) : PyData := .tuple [.tuple (k.row.map epy), oint k.ends]
structure Kn.sm (k : Kn) : Prop where
  len : k.row.length ≤ 40
  row : ∀ e ∈ k.row, K51.sm e.1 ∧ K51.sm e.2
  ends : ∀ g, k.ends = some g → K51.sm g
theorem dpa_row {H : Hp} : ∀ {ps : List Addr} {r : Rw}, Paired (fun p (e : Int × Int) => SqT K H p [.int e.1, .int e.2]) ps r → DpAll K H (ps.map V.ref) (r.map epy)
  | [], [], .nil => .nil
  | _ :: _, _ :: _, .cons a t => .cons (.tup a (.cons (.int _) (.cons (.int _) .nil))) (dpa_row t)
theorem dp_kn {H : Hp} {v : V} {k : Kn} (h : KnH K H v k) : Dp K H v (kpy k) := by
  obtain ⟨t, r, ps, rfl, sq, fz, prs⟩ := h
  refine .tup sq (.cons (.tup fz (dpa_row prs)) (.cons ?_ .nil))
  cases k.ends with
  | none => exact .non
  | some g => exact .int g
theorem nl_row : ∀ r : Rw, NLs (r.map epy)
  | [] => trivial
  | _ :: r => ⟨⟨trivial, trivial, trivial⟩, nl_row r⟩
theorem nl_kn (k : Kn) : NL (kpy k) := ⟨nl_row _, nl_oint _, trivial⟩
theorem rp_kn {k : Kn} (h : k.sm) : KQ.RpE (kpy k) := by
  refine ⟨3, by decide, (show 2 ≤ 40 by decide), fun d hd => ?_⟩
  simp only [List.mem_cons, List.not_mem_nil, or_false] at hd
  rcases hd with rfl | rfl
  · refine ⟨by rw [List.length_map]; exact h.len, fun d hd => ?_⟩
    obtain ⟨e, he, rfl⟩ := List.mem_map.mp hd
    refine ⟨(show 2 ≤ 40 by decide), fun d hd => ?_⟩
    simp only [List.mem_cons, List.not_mem_nil, or_false] at hd
    rcases hd with rfl | rfl
    · exact lg (h.row e he).1
    · exact lg (h.row e he).2
  · cases he : k.ends with
    | none => trivial
    | some g => exact lg (h.ends g he)
def spLt (K : PySem.W.Frag) : Sp := fun vs H Q E => ∃ (house first : Int) (v : V) (h : Addr) (k : Kn) (hs : List Int), vs = [.int house, v, .int first, .ref h] ∧ KnH K H v k ∧ SqT K H h (hs.map V.int) ∧ sm house ∧ sm first ∧ k.sm ∧
  (k.ok ∨ ((∀ g, k.ends = some g → 0 ≤ g) ∧ k.row.all (mkOk k.ends) = false)) ∧
  (0 ≤ house → k.ok → 0 ≤ first → ∀ u H', Same H H' → LeH K H' u (theL k house first hs) → Q u H') ∧
  (house < 0 → Err K H "InvalidHouse" (.int house) E) ∧ (0 ≤ house → k.row.all (mkOk k.ends) = false → Err K H "InvalidKnown" v E) ∧ (0 ≤ house → k.ok → first < 0 → Err K H "InvalidTick" (.int first) E)
def spKnE (K : PySem.W.Frag) : Sp := fun vs H Q _ => ∃ (v : V) (k : Kn), vs = [v] ∧ KnH K H v k ∧ ((k.ok ∧ ∀ H', Same H H' → Q (.bl true) H') ∨ ((∀ g, k.ends = some g → 0 ≤ g) ∧ k.row.all (mkOk k.ends) = false ∧ k.row.length ≤ 1000 ∧ ∀ H', Same H H' → Q (.bl false) H'))
theorem ok_is_known_e (T : Txt K w mg) : FnOk P w K mg base CX0 5 (He.fAd K ("is_known", none)) (fdAt K (He.fAd K ("is_known", none))) ["told"] (spKnE K) :=
  ⟨fun vs H Q E h => by
    obtain ⟨v, k, rfl, _⟩ := h
    rfl, fun A st s H a us vs Q E hr I b r h => by
    obtain ⟨v, k, rfl, hk, ⟨ok, q⟩ | ⟨he, hb, hl, q⟩⟩ := h
    · exact (ok_is_known T).run A st s H a us [v] Q E hr I b r ⟨v, k, rfl, hk, ok, q⟩
    · exact (ok_is_known_n T).run A st s H a us [v] Q E hr I b r ⟨v, k, rfl, hk, he, hb, hl, q⟩⟩
theorem scLt : FnScope ["house", "known", "first", "heard"] ["house", "known", "first", "heard"] (defScope s_letter) := ⟨rfl, rfl, rfl, by decide +kernel, rfl, by decide +kernel, by decide +kernel⟩
theorem ok_letter (T : Txt K w mg) : FnOk P w K mg base (L2.CX P w) 6 (He.fAd K ("letter", none)) (fdAt K (He.fAd K ("letter", none))) ["house", "known", "first", "heard"] (spLt K) := by
  have cInvalidHouse := cf_of T.ex (x := "InvalidHouse") (by decide +kernel)
  have cInvalidKnown := cf_of T.ex (x := "InvalidKnown") (by decide +kernel)
  have cInvalidTick := cf_of T.ex (x := "InvalidTick") (by decide +kernel)
  have tI := tI_of T.ex
  have GI : FnOk P w K mg base CX0 1 (iAd K) (fdAt K (iAd K)) ["self", "value"] (spInit K) := ok_init T
  have bI : Binds K (fdAt K (iAd K)) ["self", "value"] [] := T.b_GameError_init
  refine T.F_letter.ok scLt (fun vs H Q E h => ?_) (fun cdv A outer s H vs Q E hr h => ?_)
  · obtain ⟨house, first, v, h, k, hs, rfl, _⟩ := h
    rfl
  · obtain ⟨house, first, v, h, k, hs, rfl, hk, hh, mh, mf, mk, hkn, kg, k1, k2, k3⟩ := h
    have hr1 : Room 2 _ := hr.mono (by decide)
    refine ⟨_, (pss_cons (ps_if (pt_cmpR op_lt (pv 0) pe_int (nomark _)) (pss_one (ps_raise rfl (takes_of rfl rfl rfl rfl) (pmk_oex cInvalidHouse.oex cInvalidHouse.ini tI GI hr1 bI .nil pass0 (by rfl) T.g_InvalidHouse (pa_cons (pv 0) pa_nil)))) pss_nil)
      (pss_cons (ps_if (pt_not (pt_val (pe_call (ok_is_known_e T) (hr.mono (by omega)) (by rfl) T.g_is_known (T.F_is_known).kp T.b_is_known .nil pass0 (pa_cons (pv 1) pa_nil)))) (pss_one (ps_raise rfl (takes_of rfl rfl rfl rfl) (pmk_oex cInvalidKnown.oex cInvalidKnown.ini tI GI hr1 bI .nil pass0 (by rfl) T.g_InvalidKnown (pa_cons (pv 1) pa_nil)))) pss_nil)
      (pss_cons (ps_if (pt_cmpR op_lt (pv 2) pe_int (nomark _)) (pss_one (ps_raise rfl (takes_of rfl rfl rfl rfl) (pmk_oex cInvalidTick.oex cInvalidTick.ini tI GI hr1 bI .nil pass0 (by rfl) T.g_InvalidTick (pa_cons (pv 2) pa_nil)))) pss_nil)
      (pss_one (ps_ret (pe_call (ok_letter_of T) (hr.mono (by decide)) (by rfl) T.g_letter_of (T.F_letter_of).kp T.b_letter_of .nil pass0 (pa_cons (pv 0) (pa_cons (pv 1) (pa_cons (pv 2) (pa_cons (pv 3) pa_nil)))))))))), ?_⟩
    refine ⟨_, rfl, _, _, rfl, rfl, _, rfl, ite2 (fun z => ?_) (fun z => ?_)⟩
    · refine ⟨_, rfl, (show 1 ≤ 1000 by decide), ?_⟩
      exact made cInvalidHouse (.int house) (rp_int mh) trivial (fun dx hdx => k1 (of_decide_eq_true z) H dx (Same.refl H) hdx)
    have h0 : 0 ≤ house := by
      have : ¬ house < 0 := fun q => z (decide_eq_true q)
      omega
    rcases hkn with ok | ⟨he, hbad⟩
    · refine ⟨_, rfl, v, k, rfl, hk, .inl ⟨ok, fun H1 s1 => ⟨true, rfl, iteF ?_⟩⟩⟩
      refine ⟨_, rfl, _, _, rfl, rfl, _, rfl, ite2 (fun z => ?_) (fun z => ?_)⟩
      · refine ⟨_, rfl, (show 1 ≤ 1000 by decide), ?_⟩
        exact made cInvalidTick (.int first) (rp_int mf) trivial (fun dx hdx => k3 h0 ok (of_decide_eq_true z) H1 dx s1 hdx)
      have h1 : 0 ≤ first := by
        have : ¬ first < 0 := fun q => z (decide_eq_true q)
        omega
      exact ⟨_, rfl, _, rfl, _, rfl, _, rfl, house, first, v, h, k, hs, rfl, hk.tf s1, ok, (same_tf s1).sq hh, fun u H2 s2 hu => kg h0 ok h1 u H2 (s1.trans s2) hu⟩
    · refine ⟨_, rfl, v, k, rfl, hk, .inr ⟨he, hbad, by have := mk.len; omega, fun H1 s1 => ⟨false, rfl, iteT ?_⟩⟩⟩
      refine ⟨_, rfl, (show 1 ≤ 1000 by decide), ?_⟩
      exact made cInvalidKnown (dp_kn (hk.tf s1)) (rp_kn mk) (nl_kn k) (fun dx hdx => k2 h0 hbad H1 dx s1 hdx)
end
end K51
set_option maxRecDepth 100000
set_option maxHeartbeats 4000000
/-! Letters, and what is none, drawn. -/
namespace K51
open PySem PySem.Spec PyProof.Rows L2 KF KD
theorem at_mem {α : Type} (f : α → V) (xs : List α) {x : Int} (h0 : 0 ≤ x) (h1 : x < xs.length) : ∃ y, y ∈ xs ∧ atI (xs.map f) x = some (f y) := by
  obtain ⟨j, rfl⟩ : ∃ j : Nat, x = (j : Int) := ⟨x.toNat, by omega⟩
  have hj : j < xs.length := by omega
  exact ⟨xs[j], List.getElem_mem hj, atI_nat (by rw [List.getElem?_map, List.getElem?_eq_getElem hj]; rfl)⟩
theorem is_iff (l : Le) : l.is = true ↔ 0 ≤ l.house ∧ 0 ≤ l.first ∧ l.row.length ≤ 32 ∧ l.row.all prOk = true ∧ endOk l.ends (l.first + (l.row.length : Nat)) = true ∧ (l.heard.all fun t => decide (0 ≤ t)) = true := by
  unfold Le.is
  simp only [Bool.and_eq_true, decide_eq_true_eq]
theorem is_no {l : Le} (h : ¬ (0 ≤ l.house ∧ 0 ≤ l.first ∧ l.row.length ≤ 32 ∧ l.row.all prOk = true ∧ endOk l.ends (l.first + (l.row.length : Nat)) = true ∧ (l.heard.all fun t => decide (0 ≤ t)) = true)) : l.is = false := by
  cases e : l.is with
  | false => rfl
  | true => exact absurd ((is_iff l).mp e) h
theorem cat_ints {K : PySem.W.Frag} {H : Hp} {a b : Addr} {ns ms : List Int} {Q : VK} (ha : SqT K H a (ns.map V.int)) (hb : SqT K H b (ms.map V.int)) (hl : ns.length + ms.length ≤ 1000) (q : ∀ u H', Same H H' → SqT K H' u ((ns ++ ms).map V.int) → Q (.ref u) H') : rCatA K (.ref a) (.ref b) H Q :=
  catV ha hb (by rw [List.length_map, List.length_map]; exact hl) (fun u H' s z => q u H' s (by rw [List.map_append]; exact z))
theorem sl_ints {K : PySem.W.Frag} {H : Hp} {a : Addr} {ns : List Int} {lo hi : Option Int} {Q : VK} (ha : SqT K H a (ns.map V.int)) (q : ∀ u (ms : List Int) H', Same H H' → SqT K H' u (ms.map V.int) → ms.length ≤ ns.length → (∀ p ∈ ms, p ∈ ns) → Q (.ref u) H') : rSlA K (.ref a) lo hi H Q := by
  refine slV ha (fun u H' s z => ?_)
  have e : cutV (ns.map V.int) lo hi = ((ns.drop (HT.sIx (ns.map V.int).length 0 lo)).take (HT.sIx (ns.map V.int).length (ns.map V.int).length hi - HT.sIx (ns.map V.int).length 0 lo)).map V.int := by
    unfold cutV
    rw [List.map_take, List.map_drop]
  rw [e] at z
  refine q u _ H' s z ?_ (fun p hp => List.mem_of_mem_drop (List.mem_of_mem_take hp))
  rw [List.length_take, List.length_drop]
  omega
theorem pr_sm {p : Int} (h : prOk p = true) : sm p := by
  unfold prOk at h
  rw [Bool.and_eq_true, decide_eq_true_eq, decide_eq_true_eq] at h
  unfold sm
  omega
section
variable {P : Program} {w : World} {K : PySem.W.Frag} {mg : Str → Option Value} {base : Heap}
def spGl (K : PySem.W.Frag) : Sp := fun vs H Q _ => ∃ (d : Addr) (n : Nat), vs = [.ref d] ∧ Dk H d (n + 100) ∧ ∀ (u : V) (l : Le) H', Frm d H H' → Dk H' d n → LeH K H' u l → l.is = true → l.sm → l.first ≤ 40 → l.row.length ≤ 32 → l.heard.length ≤ 4 → Q u H'
theorem scGl : FnScope ["deck", "row", "first", "ends", "at", "house"] ["deck"] (defScope s_law_letter) := ⟨rfl, rfl, rfl, by decide +kernel, rfl, by decide +kernel, by decide +kernel⟩
theorem ok_law_letter (T : Txt K w mg) : FnOk P w K mg base CX0 2 (He.fAd K ("_law_letter", none)) (fdAt K (He.fAd K ("_law_letter", none))) ["deck"] (spGl K) := by
  refine T.F_law_letter.ok scGl (fun vs H Q E h => ?_) (fun cdv A outer s H vs Q E hr h => ?_)
  · obtain ⟨d, n, rfl, _⟩ := h
    rfl
  · obtain ⟨d, n, rfl, hD, kk⟩ := h
    refine ⟨_, PSs.nox (pss_cons (ps_set (i := 1) scGl.nd rfl (Or.inl rfl) (pe_callTy call_tuple_of (by rfl) T.n_tuple PyProof.Rows.Boot.«tuple» (pa_cons (pe_lc (own := [("at", 4)]) (g := gName 4) (tt := tYes) (by rfl) scGl.nd (pi_range1 (by rfl) T.n_range (pa_cons (pe_ix (r := rIxL K) ix_list (pe_lst (pa_cons (pe_call (ok_law_draw T) (hr.mono (by decide)) (by rfl) T.g_law_draw (T.F_law_draw).kp T.b_law_draw .nil pass0 (pa_cons (pv 0) (pa_cons pe_int pa_nil))) (pa_cons pe_int pa_nil))) (pe_callTy call_int1 (by rfl) T.n_int PyProof.Rows.Boot.«int» (pa_cons (pe_cmpR op_eq (pe_call (ok_law_draw T) (hr.mono (by decide)) (by rfl) T.g_law_draw (T.F_law_draw).kp T.b_law_draw .nil pass0 (pa_cons (pv 0) (pa_cons pe_int pa_nil))) pe_int (nomark _)) pa_nil)) (fun _ _ => rfl)) pa_nil)) (blkOk_by (own := [("at", 4)]) (N := ["deck", "row", "first", "ends", "at", "house"]) (sc := defScope s_law_letter) (by decide +kernel)) (fun _ _ _ _ _ => pg_name (i := 4) scGl.nd rfl (Or.inl rfl)) (fun _ _ _ _ _ => pts_nil) (fun _ _ _ _ _ => (pe_call (ok_law_draw T) (hr.mono (by decide)) (by rfl) T.g_law_draw (T.F_law_draw).kp T.b_law_draw .nil pass0 (pa_cons (pv 0) (pa_cons pe_int pa_nil))))) pa_nil)))
      (pss_cons (ps_set (i := 2) scGl.nd rfl (Or.inl rfl) (pe_call (ok_law_draw T) (hr.mono (by decide)) (by rfl) T.g_law_draw (T.F_law_draw).kp T.b_law_draw .nil pass0 (pa_cons (pv 0) (pa_cons pe_int pa_nil))))
      (pss_cons (ps_set (i := 3) scGl.nd rfl (Or.inl rfl) (pe_ix (r := rIxL K) ix_list (pe_lst (pa_cons pe_non (pa_cons (pe_op op_add (pe_op op_add (pv 2) (pe_callB (r := Evl.rLenS K) call_len_seq (by rfl) T.n_len PyProof.Rows.Boot.«len» (pa_cons (pv 1) pa_nil))) (pe_call (ok_law_draw T) (hr.mono (by decide)) (by rfl) T.g_law_draw (T.F_law_draw).kp T.b_law_draw .nil pass0 (pa_cons (pv 0) (pa_cons pe_int pa_nil)))) pa_nil))) (pe_call (ok_law_draw T) (hr.mono (by decide)) (by rfl) T.g_law_draw (T.F_law_draw).kp T.b_law_draw .nil pass0 (pa_cons (pv 0) (pa_cons pe_int pa_nil))) (fun _ _ => rfl)))
      (pss_one (ps_ret (pe_tup (pa_cons (pe_call (ok_law_draw T) (hr.mono (by decide)) (by rfl) T.g_law_draw (T.F_law_draw).kp T.b_law_draw .nil pass0 (pa_cons (pv 0) (pa_cons pe_int pa_nil))) (pa_cons (pv 2) (pa_cons (pv 1) (pa_cons (pv 3) (pa_cons (pe_callTy call_tuple_of (by rfl) T.n_tuple PyProof.Rows.Boot.«tuple» (pa_cons (pe_lc (own := [("house", 5)]) (g := gName 5) (tt := tYes) (by rfl) scGl.nd (pi_range1 (by rfl) T.n_range (pa_cons (pe_op op_add pe_int (pe_call (ok_law_draw T) (hr.mono (by decide)) (by rfl) T.g_law_draw (T.F_law_draw).kp T.b_law_draw .nil pass0 (pa_cons (pv 0) (pa_cons pe_int pa_nil)))) pa_nil)) (blkOk_by (own := [("house", 5)]) (N := ["deck", "row", "first", "ends", "at", "house"]) (sc := defScope s_law_letter) (by decide +kernel)) (fun _ _ _ _ _ => pg_name (i := 5) scGl.nd rfl (Or.inl rfl)) (fun _ _ _ _ _ => pts_nil) (fun _ _ _ _ _ => (pe_call (ok_law_draw T) (hr.mono (by decide)) (by rfl) T.g_law_draw (T.F_law_draw).kp T.b_law_draw .nil pass0 (pa_cons (pv 0) (pa_cons pe_int pa_nil))))) pa_nil)) pa_nil))))))))))), ?_⟩
    refine ⟨_, rfl, d, 5, n + 99, rfl, by decide, by decide, hD, fun x H1 a1 a2 f1 D1 => ?_⟩
    refine ⟨(show 2 ≤ sizeLine by decide), fun p np => ⟨_, rfl, d, 9, n + 98, rfl, by decide, by decide, D1.same (new_same np), fun y H2 b1 b2 f2 D2 => ⟨by rfl, .inr ⟨_, rfl, ?_⟩⟩⟩⟩
    have hpd := D1.ne np
    obtain ⟨jx, hjx, hj2⟩ : ∃ jx : Int, jx = (if decide (V.int y = V.int 0) = true then 1 else 0) ∧ 0 ≤ jx ∧ jx < 2 := ⟨_, rfl, by split <;> decide, by split <;> decide⟩
    rw [← hjx]
    obtain ⟨m, hm, hat⟩ := at_mem V.int [x, 32] hj2.1 (by simpa using hj2.2)
    have hm0 : 0 ≤ m ∧ m ≤ 32 := by
      simp at hm
      omega
    refine ⟨p, _, _, _, rfl, rfl, SqL.of (f2 p _ hpd upd_same), hat, m, rfl, by omega, by omega, fun D hD => ?_⟩
    have hDd := D2.ne hD
    have f02 := (f1.trans (Frm.of_new np)).trans f2
    refine lc_range (lo := 0) (n := m.toNat) (fun i H' => ∃ ns : List Int, H' D = some (.lst (ns.map V.int)) ∧ ns.length = i ∧ ns.all prOk = true ∧ Frm d H2 H' ∧ Dk H' d (n + 98 - i)) ⟨[], upd_same, rfl, rfl, Frm.of_new hD, D2.upd hDd⟩ (fun i H' hi h => ?_) (fun H' h => ?_)
    · obtain ⟨ns, hacc, hnl, hns, fr, DD⟩ := h
      have hi4 : i < 32 := by omega
      refine ⟨rfl, ?_⟩
      dsimp only [tYes]
      rw [if_pos rfl]
      refine ⟨_, rfl, d, 64, n + 97 - i, rfl, by decide, by decide, DD.le (by omega), fun x H3 c1 c2 f3 D3 => ?_⟩
      refine ⟨_, f3 D _ hDd hacc, by rw [List.length_map]; exact Nat.lt_of_lt_of_le (show ns.length < 100 by omega) (by decide), ns ++ [x], ?_, by rw [List.length_append, hnl]; rfl, ?_, fun b o hb w => ?_, (D3.upd hDd).le (by omega)⟩
      · rw [upd_same, List.map_append]
        rfl
      · rw [List.all_append, hns]
        simp [prOk]
        omega
      · rw [upd_ne (ne_of_none w hD)]
        exact f3 b o hb (fr b o hb w)
    obtain ⟨ns, hacc, hnl, hns, fr, DD⟩ := h
    refine ⟨D, _, rfl, .inl ⟨SqL.of hacc, fun r nr => ?_⟩⟩
    have sr := new_same (o := .tup (ns.map V.int)) nr
    have D3 := (DD.same sr).le (show n + 60 ≤ n + 98 - m.toNat by omega)
    have f3 := (f02.trans fr).trans (Frm.of_same sr)
    have q3 : SqT K (upd H' r (.tup (ns.map V.int))) r (ns.map V.int) := SqT.of upd_same
    generalize (upd H' r (.tup (ns.map V.int))) = H3 at D3 f3 q3 ⊢
    refine ⟨_, rfl, d, 40, n + 59, rfl, by decide, by decide, D3, fun first H4 e1 e2 f4 D4 => ?_⟩
    obtain ⟨xd3, hxd3⟩ := D3.lst
    have q4 := (f4.tf hxd3).sq q3
    refine ⟨_, rfl, _, rfl, r, _, rfl, .inr q4, _, _, rfl, rfl, _, rfl, d, 3, n + 58, rfl, by decide, by decide, D4, fun x4 H7 e7 e8 f7 D7 => ⟨_, _, rfl, rfl, ?_⟩⟩
    rw [List.length_map]
    refine ⟨(show 2 ≤ sizeLine by decide), fun p3 np3 => ⟨_, rfl, d, 2, n + 57, rfl, by decide, by decide, D7.same (new_same np3), fun x5 H8 e9 e10 f8 D8 => ?_⟩⟩
    have hpd3 := D7.ne np3
    obtain ⟨en, hen, hat3⟩ := at_mem ov [none, some (first + (ns.length : Nat) + x4)] e9 (by simpa using e10)
    have hen0 : endOk en (first + (ns.length : Nat)) = true ∧ ∀ e, en = some e → sm e := by
      simp at hen
      rcases hen with rfl | rfl
      · exact ⟨rfl, fun e he => nomatch he⟩
      · refine ⟨decide_eq_true (by omega), fun e he => ?_⟩
        cases he
        unfold sm
        omega
    refine ⟨p3, _, _, _, rfl, rfl, SqL.of (f8 p3 _ hpd3 upd_same), hat3, ?_⟩
    refine ⟨_, rfl, d, 6, n + 56, rfl, by decide, by decide, D8, fun house H9 e11 e12 f9 D9 => ?_⟩
    have g39 := ((f4.trans f7).trans (Frm.of_new np3)).trans (f8.trans f9)
    refine ⟨_, rfl, _, rfl, _, rfl, _, rfl, d, 4, n + 55, rfl, by decide, by decide, D9, fun x6 H10 e13 e14 f10 D10 => ⟨_, _, rfl, rfl, 1 + x6, rfl, by omega, by omega, fun D2 hD2 => ?_⟩⟩
    have hD2d := D10.ne hD2
    refine lc_range (lo := 0) (n := (1 + x6).toNat) (fun i H' => ∃ hs : List Int, H' D2 = some (.lst (hs.map V.int)) ∧ hs.length = i ∧ (∀ x ∈ hs, 0 ≤ x ∧ x < 50) ∧ Frm d H10 H' ∧ Dk H' d (n + 55 - i)) ⟨[], upd_same, rfl, (fun x h => (nomatch h)), Frm.of_new hD2, D10.upd hD2d⟩ (fun i H' hi h => ?_) (fun H' h => ?_)
    · obtain ⟨hs, hacc, hnl, hns, fr, DD⟩ := h
      have hi4 : i < 4 := by omega
      refine ⟨rfl, ?_⟩
      dsimp only [tYes]
      rw [if_pos rfl]
      refine ⟨_, rfl, d, 50, n + 54 - i, rfl, by decide, by decide, DD.le (by omega), fun x H3 c1 c2 f3 D3 => ?_⟩
      refine ⟨_, f3 D2 _ hD2d hacc, by rw [List.length_map]; exact Nat.lt_of_lt_of_le (show hs.length < 100 by omega) (by decide), hs ++ [x], ?_, by rw [List.length_append, hnl]; rfl, fun e he => ?_, fun b o hb w => ?_, (D3.upd hD2d).le (by omega)⟩
      · rw [upd_same, List.map_append]
        rfl
      · rcases List.mem_append.mp he with he | he
        · exact hns e he
        · rw [List.mem_singleton.mp he]
          exact ⟨c1, c2⟩
      · rw [upd_ne (ne_of_none w hD2)]
        exact f3 b o hb (fr b o hb w)
    obtain ⟨hs, hacc2, hnl2, hns2, fr2, DD2⟩ := h
    refine ⟨D2, _, rfl, .inl ⟨SqL.of hacc2, fun g ng => ⟨(show 5 ≤ sizeLine by decide), fun u nu => ?_⟩⟩⟩
    have sg := new_same (o := .tup (hs.map V.int)) ng
    have su := new_same (o := .tup [.int house, .int first, .ref r, ov en, .ref g]) nu
    have g3e := ((g39.trans f10).trans fr2).trans (Frm.of_same (sg.trans su))
    refine kk (.ref u) ⟨house, first, ns, en, hs⟩ _ (f3.trans g3e) ((DD2.same (sg.trans su)).le (by omega)) ⟨u, r, g, rfl, SqT.of upd_same, (g3e.tf hxd3).sq q3, (same_tf su).sq (SqT.of upd_same)⟩ ((is_iff _).mpr ⟨e11, e1, by show ns.length ≤ 32; omega, hns, hen0.1, List.all_eq_true.mpr fun x hx => decide_eq_true (hns2 x hx).1⟩) ⟨by show sm house; unfold sm; omega, by show sm first; unfold sm; omega, ⟨by show ns.length ≤ 36; omega, fun p hp => pr_sm (List.all_eq_true.mp hns p hp)⟩, hen0.2, ⟨by show hs.length ≤ 8; omega, fun p hp => by have := hns2 p hp; unfold sm; omega⟩⟩ (by show first ≤ 40; omega) (by show ns.length ≤ 32; omega) (by show hs.length ≤ 4; omega)
end
end K51
set_option maxRecDepth 100000
set_option maxHeartbeats 4000000
/-! What is no letter, drawn. -/
namespace K51
open PySem PySem.Spec PyProof.Rows L2 KF KD
section
variable {P : Program} {w : World} {K : PySem.W.Frag} {mg : Str → Option Value} {base : Heap}
def spNo (K : PySem.W.Frag) : Sp := fun vs H Q _ => ∃ (d : Addr) (n : Nat), vs = [.ref d] ∧ Dk H d (n + 200) ∧ ∀ (u : V) (l : Le) H', Frm d H H' → Dk H' d n → LeH K H' u l → l.is = false → l.sm → Q u H'
theorem scNo : FnScope ["deck", "house", "first", "row", "ends", "heard", "way", "at"] ["deck"] (defScope s_law_no_letter) := ⟨rfl, rfl, rfl, by decide +kernel, rfl, by decide +kernel, by decide +kernel⟩
theorem ok_law_no_letter (T : Txt K w mg) : FnOk P w K mg base CX0 3 (He.fAd K ("_law_no_letter", none)) (fdAt K (He.fAd K ("_law_no_letter", none))) ["deck"] (spNo K) := by
  refine T.F_law_no_letter.ok scNo (fun vs H Q E h => ?_) (fun cdv A outer s H vs Q E hr h => ?_)
  · obtain ⟨d, n, rfl, _⟩ := h
    rfl
  · obtain ⟨d, n, rfl, hD0, kk⟩ := h
    refine ⟨_, PSs.nox (pss_cons (ps_asg (pe_call (ok_law_letter T) (hr.mono (by decide)) (by rfl) T.g_law_letter (T.F_law_letter).kp T.b_law_letter .nil pass0 (pa_cons (pv 0) pa_nil)) (pg_tup (by rfl) (pgs_cons (pg_name (i := 1) scNo.nd rfl (Or.inl rfl)) (pgs_cons (pg_name (i := 2) scNo.nd rfl (Or.inl rfl)) (pgs_cons (pg_name (i := 3) scNo.nd rfl (Or.inl rfl)) (pgs_cons (pg_name (i := 4) scNo.nd rfl (Or.inl rfl)) (pgs_cons (pg_name (i := 5) scNo.nd rfl (Or.inl rfl)) pgs_nil)))))))
      (pss_cons (ps_set (i := 6) scNo.nd rfl (Or.inl rfl) (pe_call (ok_law_draw T) (hr.mono (by decide)) (by rfl) T.g_law_draw (T.F_law_draw).kp T.b_law_draw .nil pass0 (pa_cons (pv 0) (pa_cons pe_int pa_nil))))
      (pss_cons (ps_if (pt_cmpR op_eq (pv 6) pe_int (nomark _)) (pss_one (ps_ret (pe_tup (pa_cons (pe_un un_neg pe_int) (pa_cons (pv 2) (pa_cons (pv 3) (pa_cons (pv 4) (pa_cons (pv 5) pa_nil)))))))) pss_nil)
      (pss_cons (ps_if (pt_cmpR op_eq (pv 6) pe_int (nomark _)) (pss_one (ps_ret (pe_tup (pa_cons (pv 1) (pa_cons (pe_op op_sub (pe_un un_neg pe_int) (pe_call (ok_law_draw T) (hr.mono (by decide)) (by rfl) T.g_law_draw (T.F_law_draw).kp T.b_law_draw .nil pass0 (pa_cons (pv 0) (pa_cons pe_int pa_nil)))) (pa_cons (pv 3) (pa_cons (pv 4) (pa_cons (pv 5) pa_nil)))))))) pss_nil)
      (pss_cons (ps_if (pt_cmpR op_eq (pv 6) pe_int (nomark _)) (pss_one (ps_ret (pe_tup (pa_cons (pv 1) (pa_cons (pv 2) (pa_cons (pe_op (show OpR _ _ (rCatA K) from op_catA) (pe_slice (show SlR _ (rSlA K) from sl_tupA) (pv 3) po_none (po_some pe_int)) (pe_tup (pa_cons (pe_ix (r := rIxL K) ix_list (pe_lst (pa_cons pe_int (pa_cons (pe_un un_neg pe_int) pa_nil))) (pe_call (ok_law_draw T) (hr.mono (by decide)) (by rfl) T.g_law_draw (T.F_law_draw).kp T.b_law_draw .nil pass0 (pa_cons (pv 0) (pa_cons pe_int pa_nil))) (fun _ _ => rfl)) pa_nil))) (pa_cons pe_non (pa_cons (pv 5) pa_nil)))))))) pss_nil)
      (pss_cons (ps_if (pt_cmpR op_eq (pv 6) pe_int (nomark _)) (pss_one (ps_ret (pe_tup (pa_cons (pv 1) (pa_cons (pv 2) (pa_cons (pv 3) (pa_cons (pe_op op_sub (pe_op op_add (pv 2) (pe_callB (r := Evl.rLenS K) call_len_seq (by rfl) T.n_len PyProof.Rows.Boot.«len» (pa_cons (pv 3) pa_nil))) pe_int) (pa_cons (pv 5) pa_nil)))))))) pss_nil)
      (pss_cons (ps_if (pt_cmpR op_eq (pv 6) pe_int (nomark _)) (pss_one (ps_ret (pe_tup (pa_cons (pv 1) (pa_cons (pv 2) (pa_cons (pv 3) (pa_cons (pv 4) (pa_cons (pe_op (show OpR _ _ (rCatA K) from op_catA) (pe_slice (show SlR _ (rSlA K) from sl_tupA) (pv 5) po_none (po_some pe_int)) (pe_tup (pa_cons (pe_un un_neg pe_int) pa_nil))) pa_nil)))))))) pss_nil)
      (pss_one (ps_ret (pe_tup (pa_cons (pv 1) (pa_cons (pv 2) (pa_cons (pe_callTy call_tuple_of (by rfl) T.n_tuple PyProof.Rows.Boot.«tuple» (pa_cons (pe_lc (own := [("at", 7)]) (g := gName 7) (tt := tYes) (by rfl) scNo.nd (pi_range1 (by rfl) T.n_range (pa_cons (pe_op op_add pe_int (pe_call (ok_law_draw T) (hr.mono (by decide)) (by rfl) T.g_law_draw (T.F_law_draw).kp T.b_law_draw .nil pass0 (pa_cons (pv 0) (pa_cons pe_int pa_nil)))) pa_nil)) (blkOk_by (own := [("at", 7)]) (N := ["deck", "house", "first", "row", "ends", "heard", "way", "at"]) (sc := defScope s_law_no_letter) (by decide +kernel)) (fun _ _ _ _ _ => pg_name (i := 7) scNo.nd rfl (Or.inl rfl)) (fun _ _ _ _ _ => pts_nil) (fun _ _ _ _ _ => (pe_call (ok_law_draw T) (hr.mono (by decide)) (by rfl) T.g_law_draw (T.F_law_draw).kp T.b_law_draw .nil pass0 (pa_cons (pv 0) (pa_cons pe_int pa_nil))))) pa_nil)) (pa_cons pe_non (pa_cons (pv 5) pa_nil))))))))))))))), ?_⟩
    refine ⟨_, rfl, d, n + 100, rfl, hD0, fun v l H1 f1 D1 hl his hsm hf40 hr32 hg4 => ?_⟩
    obtain ⟨t, r, g, rfl, sq, sr, sg⟩ := hl
    have li := (is_iff l).mp his
    refine ⟨t, _, rfl, sq, rfl, _, _, rfl, _, _, rfl, _, _, rfl, _, _, rfl, _, _, rfl, rfl, ?_⟩
    refine ⟨_, rfl, d, 6, n + 99, rfl, by decide, by decide, D1, fun way H2 w0 w1 f2 D2 => ?_⟩
    obtain ⟨xd1, hxd1⟩ := D1.lst
    have F2 := f2
    have up : ∀ {Hk : Hp}, Frm d H1 Hk → SqT K Hk r (l.row.map V.int) ∧ SqT K Hk g (l.heard.map V.int) := fun f => ⟨(f.tf hxd1).sq sr, (f.tf hxd1).sq sg⟩
    have fin : ∀ (l' : Le) (r0 g0 : Addr) (H3 : Hp), Frm d H1 H3 → Dk H3 d n → SqT K H3 r0 (l'.row.map V.int) → SqT K H3 g0 (l'.heard.map V.int) → l'.is = false → l'.sm → ∀ u, H3 u = none → Q (.ref u) (upd H3 u (.tup [.int l'.house, .int l'.first, .ref r0, ov l'.ends, .ref g0])) := fun l' r0 g0 H3 f3 D3 q1 q2 e1 e2 u nu => by
      have su := new_same (o := .tup [.int l'.house, .int l'.first, .ref r0, ov l'.ends, .ref g0]) nu
      exact kk (.ref u) l' _ ((f1.trans f3).trans (Frm.of_same su)) (D3.same su) ⟨u, r0, g0, rfl, SqT.of upd_same, (same_tf su).sq q1, (same_tf su).sq q2⟩ e1 e2
    refine ⟨_, rfl, by rfl, _, rfl, ite2 (fun z => ?_) (fun z => ?_)⟩
    · refine ⟨_, rfl, _, rfl, _, rfl, _, rfl, _, rfl, (show 5 ≤ sizeLine by decide), fun u nu => ?_⟩
      exact fin ⟨-1, l.first, l.row, l.ends, l.heard⟩ r g H2 F2 (D2.le (by omega)) (up F2).1 (up F2).2 (is_no fun q => absurd q.1 (by show ¬ (0 : Int) ≤ -1; decide)) ⟨by show sm (-1); unfold sm; omega, hsm.first, hsm.row, hsm.ends, hsm.heard⟩ u nu
    dsimp only [tNext]
    refine ⟨_, rfl, by rfl, _, rfl, ite2 (fun z => ?_) (fun z => ?_)⟩
    · refine ⟨_, rfl, _, rfl, _, rfl, d, 9, n + 98, rfl, by decide, by decide, D2, fun x H3 x0 x1 f3 D3 => ⟨_, _, rfl, rfl, _, rfl, _, rfl, _, rfl, (show 5 ≤ sizeLine by decide), fun u nu => ?_⟩⟩
      have F3 := F2.trans f3
      exact fin ⟨l.house, -1 - x, l.row, l.ends, l.heard⟩ r g H3 F3 (D3.le (by omega)) (up F3).1 (up F3).2 (is_no fun q => absurd q.2.1 (by show ¬ 0 ≤ -1 - x; omega)) ⟨hsm.house, by show sm (-1 - x); unfold sm; omega, hsm.row, hsm.ends, hsm.heard⟩ u nu
    dsimp only [tNext]
    refine ⟨_, rfl, by rfl, _, rfl, ite2 (fun z => ?_) (fun z => ?_)⟩
    · refine ⟨_, rfl, _, rfl, _, rfl, _, rfl, sl_ints (up F2).1 (fun u1 ms1 H3 s3 q3 l3 m3 => ?_)⟩
      refine ⟨_, rfl, (show 2 ≤ sizeLine by decide), fun p np => ⟨_, rfl, d, 2, n + 98, rfl, by decide, by decide, (D2.same s3).same (new_same np), fun y H4 y0 y1 f4 D4 => ?_⟩⟩
      have hpd := (D2.same s3).ne np
      obtain ⟨m, hm, hat⟩ := at_mem V.int [64, -1] y0 (by simpa using y1)
      have hm0 : (m = 64 ∨ m = -1) := by simpa using hm
      have F4 := ((F2.trans (Frm.of_same s3)).trans (Frm.of_new np)).trans f4
      obtain ⟨xd3, hxd3⟩ := (D2.same s3).lst
      have q4 := (((Frm.of_new (d := d) np).trans f4).tf hxd3).sq q3
      refine ⟨p, _, _, _, rfl, rfl, SqL.of (f4 p _ hpd upd_same), hat, (show 1 ≤ sizeLine by decide), fun q nq => ?_⟩
      have sq1 := new_same (o := .tup [.int m]) nq
      refine cat_ints (ns := ms1) (ms := [m]) ((same_tf sq1).sq q4) (SqT.of upd_same) (by simp; omega) (fun u2 H5 s5 q5 => ⟨_, rfl, (show 5 ≤ sizeLine by decide), fun u nu => ?_⟩)
      have F5 := (F4.trans (Frm.of_same sq1)).trans (Frm.of_same s5)
      refine fin ⟨l.house, l.first, ms1 ++ [m], none, l.heard⟩ u2 g H5 F5 (((D4.same sq1).same s5).le (by omega)) q5 (up F5).2 (is_no fun q => ?_) ⟨hsm.house, hsm.first, ⟨by show (ms1 ++ [m]).length ≤ 36; rw [List.length_append, List.length_singleton]; omega, fun e he => ?_⟩, (fun e he => nomatch he), hsm.heard⟩ u nu
      · have q4 := q.2.2.2.1
        rw [show (Le.mk l.house l.first (ms1 ++ [m]) none l.heard).row = ms1 ++ [m] from rfl, List.all_append, Bool.and_eq_true] at q4
        rcases hm0 with rfl | rfl
        · exact absurd q4.2 (by decide)
        · exact absurd q4.2 (by decide)
      · have he2 : e ∈ ms1 ++ [m] := he
        rcases List.mem_append.mp he2 with h | h
        · exact hsm.row.2 e (m3 e h)
        · rw [List.mem_singleton.mp h]
          unfold sm
          omega
    dsimp only [tNext]
    refine ⟨_, rfl, by rfl, _, rfl, ite2 (fun z => ?_) (fun z => ?_)⟩
    · refine ⟨_, rfl, _, rfl, _, rfl, _, rfl, _, rfl, r, _, rfl, .inr (up F2).1, _, _, rfl, rfl, _, _, rfl, rfl, ?_⟩
      rw [List.length_map]
      refine ⟨_, rfl, (show 5 ≤ sizeLine by decide), fun u nu => ?_⟩
      refine fin ⟨l.house, l.first, l.row, some (l.first + (l.row.length : Nat) - 1), l.heard⟩ r g H2 F2 (D2.le (by omega)) (up F2).1 (up F2).2 (is_no fun q => ?_) ⟨hsm.house, hsm.first, hsm.row, fun e he => ?_, hsm.heard⟩ u nu
      · have q4 : decide (l.first + (l.row.length : Nat) ≤ l.first + (l.row.length : Nat) - 1) = true := q.2.2.2.2.1
        have := of_decide_eq_true q4
        omega
      · have he2 : some (l.first + (l.row.length : Nat) - 1) = some e := he
        cases he2
        have := li.2.1
        unfold sm
        omega
    dsimp only [tNext]
    refine ⟨_, rfl, by rfl, _, rfl, ite2 (fun z => ?_) (fun z => ?_)⟩
    · refine ⟨_, rfl, _, rfl, _, rfl, _, rfl, _, rfl, _, rfl, sl_ints (up F2).2 (fun u1 ms1 H3 s3 q3 l3 m3 => ?_)⟩
      refine ⟨_, rfl, (show 1 ≤ sizeLine by decide), fun q nq => ?_⟩
      have sq1 := new_same (o := .tup [.int (-1)]) nq
      refine cat_ints (ns := ms1) (ms := [-1]) ((same_tf sq1).sq q3) (SqT.of upd_same) (by simp; omega) (fun u2 H5 s5 q5 => ⟨(show 5 ≤ sizeLine by decide), fun u nu => ?_⟩)
      have F5 := ((F2.trans (Frm.of_same s3)).trans (Frm.of_same sq1)).trans (Frm.of_same s5)
      refine fin ⟨l.house, l.first, l.row, l.ends, ms1 ++ [-1]⟩ r u2 H5 F5 ((((D2.same s3).same sq1).same s5).le (by omega)) (up F5).1 q5 (is_no fun q => ?_) ⟨hsm.house, hsm.first, hsm.row, hsm.ends, ⟨by show (ms1 ++ [-1]).length ≤ 8; rw [List.length_append, List.length_singleton]; omega, fun e he => ?_⟩⟩ u nu
      · have q4 := q.2.2.2.2.2
        rw [show (Le.mk l.house l.first l.row l.ends (ms1 ++ [-1])).heard = ms1 ++ [-1] from rfl, List.all_append, Bool.and_eq_true] at q4
        exact absurd q4.2 (by decide)
      · have he2 : e ∈ ms1 ++ [-1] := he
        rcases List.mem_append.mp he2 with h | h
        · exact hsm.heard.2 e (m3 e h)
        · rw [List.mem_singleton.mp h]
          unfold sm
          omega
    dsimp only [tNext]
    refine ⟨_, rfl, _, rfl, _, rfl, d, 3, n + 98, rfl, by decide, by decide, D2, fun x H3 x0 x1 f3 D3 => ⟨_, _, rfl, rfl, 33 + x, rfl, by omega, by omega, fun D hD => ?_⟩⟩
    have hDd := D3.ne hD
    refine lc_range (lo := 0) (n := (33 + x).toNat) (fun i H' => ∃ ns : List Int, H' D = some (.lst (ns.map V.int)) ∧ ns.length = i ∧ ns.all prOk = true ∧ Frm d H3 H' ∧ Dk H' d (n + 98 - i)) ⟨[], upd_same, rfl, rfl, Frm.of_new hD, D3.upd hDd⟩ (fun i H' hi h => ?_) (fun H' h => ?_)
    · obtain ⟨ns, hacc, hnl, hns, fr, DD⟩ := h
      have hi4 : i < 36 := by omega
      refine ⟨rfl, ?_⟩
      dsimp only [tYes]
      rw [if_pos rfl]
      refine ⟨_, rfl, d, 64, n + 97 - i, rfl, by decide, by decide, DD.le (by omega), fun x H3 c1 c2 f3 D3 => ?_⟩
      refine ⟨_, f3 D _ hDd hacc, by rw [List.length_map]; exact Nat.lt_of_lt_of_le (show ns.length < 100 by omega) (by decide), ns ++ [x], ?_, by rw [List.length_append, hnl]; rfl, ?_, fun b o hb w => ?_, (D3.upd hDd).le (by omega)⟩
      · rw [upd_same, List.map_append]
        rfl
      · rw [List.all_append, hns]
        simp [prOk]
        omega
      · rw [upd_ne (ne_of_none w hD)]
        exact f3 b o hb (fr b o hb w)
    obtain ⟨ns, hacc, hnl, hns, fr, DD⟩ := h
    refine ⟨D, _, rfl, .inl ⟨SqL.of hacc, fun q nq => ⟨_, rfl, (show 5 ≤ sizeLine by decide), fun u nu => ?_⟩⟩⟩
    have sq1 := new_same (o := .tup (ns.map V.int)) nq
    have F5 := ((F2.trans f3).trans fr).trans (Frm.of_same sq1)
    refine fin ⟨l.house, l.first, ns, none, l.heard⟩ q g _ F5 ((DD.same sq1).le (by omega)) (SqT.of upd_same) (up F5).2 (is_no fun q => ?_) ⟨hsm.house, hsm.first, ⟨by show ns.length ≤ 36; omega, fun p hp => pr_sm (List.all_eq_true.mp hns p hp)⟩, (fun e he => nomatch he), hsm.heard⟩ u nu
    have : ns.length ≤ 32 := q.2.2.1
    omega
end
end K51
set_option maxRecDepth 100000
set_option maxHeartbeats 4000000
/-! Just the error that is due. -/
namespace K51
open PySem PySem.Spec PyProof.Rows L2 KF KD
def wds : List (Str × Str) := [("InvalidLetter", "letter"), ("InvalidHouse", "house"), ("InvalidKnown", "known"), ("InvalidTick", "tick"), ("InvalidPlace", "place")]
def wl0 : List Str := ["letter", "house", "known", "tick", "place"]
theorem wds_cs {x wd : Str} (h : (x, wd) ∈ wds) : x ∈ cs := by
  simp only [wds, List.mem_cons, Prod.mk.injEq, List.not_mem_nil, or_false] at h
  rcases h with ⟨rfl, _⟩ | ⟨rfl, _⟩ | ⟨rfl, _⟩ | ⟨rfl, _⟩ | ⟨rfl, _⟩ <;> decide +kernel
theorem wds_eq {x wd : Str} (h : (x, wd) ∈ wds) : cs.map (fun y => decide (x = y)) = wl0.map (fun y => decide (V.str wd = V.str y)) := by
  simp only [wds, List.mem_cons, Prod.mk.injEq, List.not_mem_nil, or_false] at h
  rcases h with ⟨rfl, rfl⟩ | ⟨rfl, rfl⟩ | ⟨rfl, rfl⟩ | ⟨rfl, rfl⟩ | ⟨rfl, rfl⟩ <;> decide +kernel
theorem dpa_bls {K : PySem.W.Frag} {H : Hp} : ∀ bs : List Bool, DpAll K H (bs.map V.bl) (bs.map PyData.bool)
  | [] => .nil
  | _ :: bs => .cons (.bl _) (dpa_bls bs)
theorem eqv_bls : ∀ bs : List Bool, PyData.eqvAll (bs.map .bool) (bs.map .bool) = true
  | [] => by simp [PyData.eqvAll]
  | a :: r => by
    rw [List.map_cons, PyData.eqvAll, eqv_bls r]
    simp [PyData.eqv]
theorem can_bls : ∀ r : List Bool, PyData.canLayAll0 (r.map .bool) = true
  | [] => by simp [PyData.canLayAll0]
  | a :: r => by rw [List.map_cons, PyData.canLayAll0, can_bls r]; simp [PyData.canLay0]
theorem dep_bls : ∀ r : List Bool, PyData.depthAll (r.map .bool) ≤ 1
  | [] => by simp [PyData.depthAll]
  | a :: r => by
    rw [List.map_cons, PyData.depthAll]
    have := dep_bls r
    simp [PyData.depth]
    omega
theorem shaped_bls (r : List Bool) : SeqAt.shaped (.list (r.map .bool)) = true := by
  unfold SeqAt.shaped
  rw [Bool.and_eq_true]
  constructor
  · simp only [PyData.canLay0, can_bls]
  · have := dep_bls r
    refine decide_eq_true ?_
    rw [PyData.depth]
    omega
/-- a kept error -/
def ExH (K : PySem.W.Frag) (H : Hp) (ae : Addr) (x : Str) (v : V) : Prop := ∃ dx, H ae = some (CxO (.ref (He.ga K x)) (some dx) ae) ∧ H dx = some (.xd [(("value" : Str), v)])
theorem ExH.on {K : PySem.W.Frag} {H H' : Hp} {ae : Addr} {x : Str} {v : V} (h : ExH K H ae x v) (s : Same H H') : ExH K H' ae x v := by
  obtain ⟨dx, h1, h2⟩ := h
  exact ⟨dx, s _ _ h1, s _ _ h2⟩
section
variable {P : Program} {w : World} {K : PySem.W.Frag} {mg : Str → Option Value} {base : Heap}
def spRf (K : PySem.W.Frag) : Sp := fun vs H Q _ => ∃ (ae dt : Addr) (x wd : Str) (v z : V) (d : PyData), vs = [.ref ae, .ref dt] ∧ (x, wd) ∈ wds ∧ ExH K H ae x v ∧ SqT K H dt [.str wd, z] ∧ Dp K H v d ∧ Dp K H z d ∧ NL d ∧ AlOk 3 d ∧ ∀ H', Same H H' → Q (.bl true) H'
theorem scRf : FnScope ["caught", "due", "kinds", "words", "word"] ["caught", "due"] (defScope s_law_refused) := ⟨rfl, rfl, rfl, by decide +kernel, rfl, by decide +kernel, by decide +kernel⟩
theorem ok_law_refused (T : Txt K w mg) : FnOk P w K mg base CX0 5 (He.fAd K ("_law_refused", none)) (fdAt K (He.fAd K ("_law_refused", none))) ["caught", "due"] (spRf K) := by
  refine T.F_law_refused.ok scRf (fun vs H Q E h => ?_) (fun cdv A outer s H vs Q E hr h => ?_)
  · obtain ⟨ae, dt, x, wd, v, z, d, rfl, _⟩ := h
    rfl
  · obtain ⟨ae, dt, x, wd, v, z, d, rfl, hw, ⟨dx, hA, hD⟩, sq, dv, dz, nl, al, kk⟩ := h
    have hx := wds_cs hw
    have c0 := cf_of T.ex hx
    refine ⟨_, PSs.nox (pss_cons (ps_set (i := 2) scRf.nd rfl (Or.inl rfl) (pe_lst (pa_cons (pe_callB call_isC (by rfl) T.n_isinstance PyProof.Rows.Boot.«isinstance» (pa_cons (pv 0) (pa_cons (pe_glob (v := .ref (He.ga K "InvalidLetter")) (by rfl) T.g_InvalidLetter rfl) pa_nil))) (pa_cons (pe_callB call_isC (by rfl) T.n_isinstance PyProof.Rows.Boot.«isinstance» (pa_cons (pv 0) (pa_cons (pe_glob (v := .ref (He.ga K "InvalidHouse")) (by rfl) T.g_InvalidHouse rfl) pa_nil))) (pa_cons (pe_callB call_isC (by rfl) T.n_isinstance PyProof.Rows.Boot.«isinstance» (pa_cons (pv 0) (pa_cons (pe_glob (v := .ref (He.ga K "InvalidKnown")) (by rfl) T.g_InvalidKnown rfl) pa_nil))) pa_nil)))))
      (pss_cons (ps_set (i := 2) scRf.nd rfl (Or.inl rfl) (pe_op op_cat (pv 2) (pe_lst (pa_cons (pe_callB call_isC (by rfl) T.n_isinstance PyProof.Rows.Boot.«isinstance» (pa_cons (pv 0) (pa_cons (pe_glob (v := .ref (He.ga K "InvalidTick")) (by rfl) T.g_InvalidTick rfl) pa_nil))) (pa_cons (pe_callB call_isC (by rfl) T.n_isinstance PyProof.Rows.Boot.«isinstance» (pa_cons (pv 0) (pa_cons (pe_glob (v := .ref (He.ga K "InvalidPlace")) (by rfl) T.g_InvalidPlace rfl) pa_nil))) pa_nil)))))
      (pss_cons (ps_set (i := 3) scRf.nd rfl (Or.inl rfl) (pe_lst (pa_cons pe_str (pa_cons pe_str (pa_cons pe_str (pa_cons pe_str (pa_cons pe_str pa_nil)))))))
      (pss_cons (ps_if (PW.pt (pw_or (pt_cmpR (op_neD hr.units) (pv 2) (pe_lc (own := [("word", 4)]) (g := gName 4) (tt := tYes) (by rfl) scRf.nd (pi_list (pv 3)) (blkOk_by (own := [("word", 4)]) (N := ["caught", "due", "kinds", "words", "word"]) (sc := defScope s_law_refused) (by decide +kernel)) (fun _ _ _ _ _ => pg_name (i := 4) scRf.nd rfl (Or.inl rfl)) (fun _ _ _ _ _ => pts_nil) (fun _ _ _ _ _ => (pe_cmpR op_eq (pe_ix (r := rIxT K) ix_tup (pv 1) pe_int (fun _ _ => rfl)) (pv 4) (nomark _)))) (nomark _)) (pw_or1 (pt_not (pt_val (pe_callB call_isC (by rfl) T.n_isinstance PyProof.Rows.Boot.«isinstance» (pa_cons (pv 0) (pa_cons (pe_bltn (v := .ty "ValueError") (by rfl) T.n_ValueError PyProof.Rows.Boot.«ValueError» rfl) pa_nil)))))))) (pss_one (ps_ret pe_bl)) pss_nil)
      (pss_one (ps_ret (pe_call (ok_law_same T 4) (hr.mono (by omega)) (by rfl) T.g_law_same (T.F_law_same).kp T.b_law_same .nil pass0 (pa_cons (pe_xk (pv 0)) (pa_cons (pe_ix (r := rIxT K) ix_tup (pv 1) pe_int (fun _ _ => rfl)) pa_nil))))))))), ?_⟩
    refine ⟨_, rfl, He.ga K x, ae, dx, _, _, _, _, rfl, c0.exc, hA, hD, .own _, kit_of2 T.ex hx (y := "InvalidLetter") (by decide +kernel), _, rfl, He.ga K x, ae, dx, _, _, _, _, rfl, c0.exc, hA, hD, .own _, kit_of2 T.ex hx (y := "InvalidHouse") (by decide +kernel), _, rfl, He.ga K x, ae, dx, _, _, _, _, rfl, c0.exc, hA, hD, .own _, kit_of2 T.ex hx (y := "InvalidKnown") (by decide +kernel), (show 3 ≤ sizeLine by decide), fun k1 n1 => ?_⟩
    have s1 := new_same (o := .lst [.bl (decide (x = "InvalidLetter")), .bl (decide (x = "InvalidHouse")), .bl (decide (x = "InvalidKnown"))]) n1
    have hA0 := hA
    have hD0 := hD
    replace hA := s1 _ _ hA
    replace hD := s1 _ _ hD
    refine ⟨_, rfl, _, rfl, He.ga K x, ae, dx, _, _, _, _, rfl, c0.exc, hA, hD, .own _, kit_of2 T.ex hx (y := "InvalidTick") (by decide +kernel), _, rfl, He.ga K x, ae, dx, _, _, _, _, rfl, c0.exc, hA, hD, .own _, kit_of2 T.ex hx (y := "InvalidPlace") (by decide +kernel), (show 2 ≤ sizeLine by decide), fun k2 n2 => ?_⟩
    have s2 := new_same (o := .lst [.bl (decide (x = "InvalidTick")), .bl (decide (x = "InvalidPlace"))]) n2
    refine ⟨k1, k2, _, _, rfl, rfl, s2 _ _ upd_same, upd_same, (show 5 ≤ sizeLine by decide), fun k3 n3 => ?_⟩
    have s3 := new_same (o := .lst ([.bl (decide (x = "InvalidLetter")), .bl (decide (x = "InvalidHouse")), .bl (decide (x = "InvalidKnown"))] ++ [.bl (decide (x = "InvalidTick")), .bl (decide (x = "InvalidPlace"))])) n3
    have hk3 : (upd (upd (upd H k1 (.lst [.bl (decide (x = "InvalidLetter")), .bl (decide (x = "InvalidHouse")), .bl (decide (x = "InvalidKnown"))])) k2 (.lst [.bl (decide (x = "InvalidTick")), .bl (decide (x = "InvalidPlace"))])) k3 (.lst ([.bl (decide (x = "InvalidLetter")), .bl (decide (x = "InvalidHouse")), .bl (decide (x = "InvalidKnown"))] ++ [.bl (decide (x = "InvalidTick")), .bl (decide (x = "InvalidPlace"))]))) k3 = some (.lst ((cs.map fun y => decide (x = y)).map V.bl)) := upd_same
    have s13 := (s1.trans s2).trans s3
    generalize (upd (upd (upd H k1 (.lst [.bl (decide (x = "InvalidLetter")), .bl (decide (x = "InvalidHouse")), .bl (decide (x = "InvalidKnown"))])) k2 (.lst [.bl (decide (x = "InvalidTick")), .bl (decide (x = "InvalidPlace"))])) k3 (.lst ([.bl (decide (x = "InvalidLetter")), .bl (decide (x = "InvalidHouse")), .bl (decide (x = "InvalidKnown"))] ++ [.bl (decide (x = "InvalidTick")), .bl (decide (x = "InvalidPlace"))]))) = H3 at hk3 s13 ⊢
    refine ⟨(show 5 ≤ sizeLine by decide), fun wl nw => ?_⟩
    have sw := new_same (o := .lst (wl0.map V.str)) nw
    have hwl : (upd H3 wl (.lst (wl0.map V.str))) wl = some (.lst (wl0.map V.str)) := upd_same
    have s14 := s13.trans sw
    have hk4 := sw _ _ hk3
    refine ⟨_, rfl, _, rfl, wl, rfl, ⟨_, SqL.of upd_same⟩, fun D nD => ?_⟩
    refine lc_it (walk_list (K := K) (a := wl) (xs := wl0.map V.str)) (fun i H' => Same (upd H3 wl (.lst (wl0.map V.str))) H' ∧ H' D = some (.lst (((wl0.take i).map fun y => decide (V.str wd = V.str y)).map V.bl))) ⟨new_same nD, upd_same⟩ (fun i H' _ h => h.1.seq (SqL.of hwl)) (fun i u H' Hx hi h y => ?_) (fun H4 h => ?_)
    · obtain ⟨sm, hacc⟩ := h
      obtain ⟨rfl, hu⟩ := y
      replace hu : (wl0.map V.str)[i]? = some u := hu
      rw [List.getElem?_map] at hu
      cases hp : wl0[i]? with
      | none => rw [hp] at hu; cases hu
      | some p =>
        rw [hp] at hu
        cases hu
        refine ⟨rfl, ?_⟩
        dsimp only [tYes]
        rw [if_pos rfl]
        refine ⟨_, rfl, dt, _, _, _, rfl, rfl, (same_tf (s14.trans sm)).sq sq, atI_nat (j := 0) rfl, _, rfl, by rfl, _, hacc, by rw [List.length_map, List.length_map, List.length_take]; exact Nat.lt_of_le_of_lt (Nat.min_le_left _ _) (Nat.lt_of_lt_of_le hi (by decide)), fun b o z => ?_, ?_⟩
        · rw [upd_ne (ne_of_none z nD)]
          exact sm _ _ z
        · rw [upd_same, List.take_add_one, hp, List.map_append, List.map_append]
          rfl
    obtain ⟨s4, hacc⟩ := h
    rw [List.length_map, List.take_length, ← wds_eq hw] at hacc
    have s5 := s14.trans s4
    refine ⟨.list ((cs.map fun y => decide (x = y)).map .bool), .list ((cs.map fun y => decide (x = y)).map .bool), .lst (SqL.of (s4 _ _ hk4)) (dpa_bls _), .lst (SqL.of hacc) (dpa_bls _), shaped_bls _, shaped_bls _, _, rfl, ?_⟩
    rw [show PyData.eqv (.list ((cs.map fun y => decide (x = y)).map .bool)) (.list ((cs.map fun y => decide (x = y)).map .bool)) = true by rw [PyData.eqv, eqv_bls]]
    refine iteF ⟨_, rfl, He.ga K x, ae, dx, _, _, true, _, rfl, c0.exc, s5 _ _ hA0, s5 _ _ hD0, .ty _, c0.ve, _, rfl, iteF ?_⟩
    refine ⟨_, rfl, ae, He.ga K x, dx, _, _, rfl, s5 _ _ hA0, c0.xf, c0.noV, s5 _ _ hD0, rfl, _, rfl, dt, _, _, _, rfl, rfl, (same_tf s5).sq sq, atI_nat (j := 1) rfl, v, z, d, rfl, dp_nl (same_tf s5) _ _ nl dv, dp_nl (same_tf s5) _ _ nl dz, al, fun H6 s6 => kk H6 (s5.trans s6)⟩
end
end K51
set_option maxRecDepth 100000
set_option maxHeartbeats 4000000
namespace KD
open PySem PySem.Spec PyProof.Rows L2
def tCallKS (sp : Sp) (gV : List V → List V → List V) (E : L2.St → XK) (t tk : TA) : TE := fun σ H Q => t σ H fun vs H1 => tk σ H1 fun zs H2 => sp (gV vs zs) H2 Q (E σ)
section
variable {X : Cx} {CX : CXT} {k : Nat} {f : Addr} {fd : FuncData} {ps ks : List Str} {sp : Sp} {E : L2.St → XK} {x : Str} {p pos : Pos} {kws : List Keyword} {tk : TA} {g : List Value → List Value → List Value} {gV : List V → List V → List V}
theorem pe_callKwS (F : FnOk X.prog X.w X.K X.mg X.base CX k f fd ps sp) (hr : Room k X.A) (hg : Gl X x) (hm : X.mg x = some (.ref f)) (hk : PySem.W.keepIn X.K (.ref f) = true) (hb : KBinds X.K fd ps ks g gV) (hx : ∀ σ, PassesAt CX X σ (E σ))
    (hkw : PK X kws tk) (hall : (backToKw pos (keywordEach kws X.env)).all (·.1.isSome) = true := by rfl) (hks : (backToKw pos (keywordEach kws X.env)).filterMap (·.1) = ks := by rfl)
    (hdb : (x == ("__debug__" : Str)) = false := by decide)
    (hpl : ((backTo pos (starEach [] X.env)).any (·.1) || (backToKw pos (keywordEach kws X.env)).any (·.1.isNone)) = false := by rfl) :
    PE X (.Call (.Name x p) [] kws pos) (tCallKS sp gV E tNil tk) := by
  refine ⟨fun pins s σ H Q I h => ?_⟩
  refine wpAny_Call_Name_kw (ld_glob I hg hm ?_ hdb)
  refine PySem.W.callWith_KW0 (h₀ := X.base) I.ok.mod.kin hk hall ?_ hpl
  refine thn (hkw.run pos pins s σ H _ I h) fun ws s2 ⟨zs, H2, I2, rz, q2⟩ => ⟨I2.kIn, ?_⟩
  rw [hks]
  have q3 : sp (gV [] zs) H2 Q (E σ) := q2
  have r2 := hb.rel .nil rz
  have hl : (g [] ws).length = ps.length := by rw [← r2.length]; exact F.len _ _ _ _ q3
  refine wpAny_call (codeAny_mono (F.run X.A X.stack s2 H2 ⟨[], ks.zip ws⟩ (g [] ws) (gV [] zs) Q (E σ) hr I2.env0 (hb.to s2 [] ws I2.kIn hl) r2 q3) fun r s' hq => ?_)
  cases r with
  | error e => exact hx σ pins H2 s2 e s' I2 hq
  | ok fl =>
    cases fl with
    | ret u => exact I2.after hq
    | next => exact False.elim hq
    | brk => exact False.elim hq
    | cont => exact False.elim hq
def kR {α : Type} (us ws : List α) : List α := if us.isEmpty then ws.reverse else []
theorem vals_app : ∀ {vs us : List V} {ws zs : List Value}, Vals vs ws → Vals us zs → Vals (vs ++ us) (ws ++ zs)
  | _, _, _, _, .nil, h => h
  | _, _, _, _, .cons a t, h => .cons a (vals_app t h)
theorem vals_rev : ∀ {vs : List V} {ws : List Value}, Vals vs ws → Vals vs.reverse ws.reverse
  | _, _, .nil => .nil
  | _, _, .cons a t => by
    rw [List.reverse_cons, List.reverse_cons]
    exact vals_app (vals_rev t) (.cons a .nil)
theorem kb_rev {K : PySem.W.Frag} {qual : Str} {params : Arguments} {body : List Stmt} {scope : Scope} {kws : List (Str × V)} (F : FunD K x qual params body scope [] kws f fd) (hp : ps.length ≠ 0)
    (h : ∀ (kV doc pm : Value) (an : Option Addr) (cdv ct : Value) (ws : List Value), ws.length = ps.length → bindArgs (PySem.W.fnOf x qual params body scope .none kV doc pm an cdv ct) ⟨[], ks.zip ws⟩ = pure (ps.zip ws.reverse)) : KBinds K fd ps ks kR kR := by
  obtain ⟨oc, od, dV, kV, doc, pm, an, cdv, ct, osl, rfl, lk, hcd, hD, hK⟩ := F.ex
  rcases hD with ⟨_, rfl⟩ | ⟨e, _⟩
  · refine ⟨fun s us ws _ hl => ?_, fun {vs us zs ws} r rz => ?_⟩
    · cases us with
      | nil =>
        have hl2 : ws.length = ps.length := by
          have : ws.reverse.length = ps.length := hl
          rw [List.length_reverse] at this
          exact this
        exact .of_eq (h kV doc pm an cdv ct ws hl2)
      | cons a b => exact absurd hl.symm hp
    · cases r with
      | nil => exact vals_rev rz
      | cons _ _ => exact .nil
  · exact absurd rfl e
end
end KD
/-! What a deed tells, or raises. -/
namespace K51
open PySem PySem.Spec PyProof.Rows L2 KF KD
inductive DnC (K : PySem.W.Frag) (H : Hp) (ok : V → Hp → Prop) (er : Str → V → Prop) : List V → Prop
  | put {a tp : Addr} {to k : Int} {v : V} {l : Le} {ws : List V} (sa : SqT K H a ws) (hw : ws.length ≤ 100) (ht : sm to) (hl : LeH K H v l) (hs : l.sm) (st : SqT K H tp [.int to, v])
      (g : l.is = true → 0 ≤ to → ∀ (u p : Addr) H', Same H H' → SqT K H' p [.int to, v] → SqT K H' u (ws ++ [.ref p]) → ok (.ref u) H') (b : l.is = false → er "InvalidLetter" v) (h : l.is = true → to < 0 → er "InvalidHouse" (.int to)) :
      DnC K H ok er [.str "put", .ref a, .ref tp, .int k]
  | taken {a : Addr} {k : Int} {ws : List V} {th : V} (sa : SqT K H a ws) (hw : ws.length ≤ 100) (hk : sm k)
      (g : ∀ (n : Nat) x, k = (n : Int) → ws[n]? = some x → ∀ (u r : Addr) H', Same H H' → SqT K H' u [x, .ref r] → SqT K H' r (ws.take n ++ ws.drop (n + 1)) → ok (.ref u) H') (b : ¬ (0 ≤ k ∧ k < ws.length) → er "InvalidPlace" (.int k)) :
      DnC K H ok er [.str "taken", .ref a, th, .int k]
  | doubled {a : Addr} {k : Int} {ws : List V} {th : V} (sa : SqT K H a ws) (hw : ws.length ≤ 100) (hk : sm k)
      (g : ∀ (n : Nat) x, k = (n : Int) → ws[n]? = some x → ∀ (u : Addr) H', Same H H' → SqT K H' u (ws ++ [x]) → ok (.ref u) H') (b : ¬ (0 ≤ k ∧ k < ws.length) → er "InvalidPlace" (.int k)) :
      DnC K H ok er [.str "doubled", .ref a, th, .int k]
  | size {tp : Addr} {b0 t0 v kv : V} {l : Le} (hl : LeH K H v l) (hs : l.sm) (st : SqT K H tp [t0, v]) (g : l.is = true → ∀ H', Same H H' → ok (.int (sizeL l)) H') (b : l.is = false → er "InvalidLetter" v) :
      DnC K H ok er [.str "size", b0, .ref tp, kv]
  | letter {tp h : Addr} {house first : Int} {b0 v kv : V} {k : Kn} {hs : List Int} (st : SqT K H tp [.int house, v, .int first, .ref h]) (hk : KnH K H v k) (sh : SqT K H h (hs.map V.int)) (mh : sm house) (mf : sm first) (mk : k.sm)
      (kn : k.ok ∨ ((∀ g, k.ends = some g → 0 ≤ g) ∧ k.row.all (mkOk k.ends) = false)) (g : 0 ≤ house → k.ok → 0 ≤ first → ∀ u H', Same H H' → LeH K H' u (theL k house first hs) → ok u H')
      (b1 : house < 0 → er "InvalidHouse" (.int house)) (b2 : 0 ≤ house → k.row.all (mkOk k.ends) = false → er "InvalidKnown" v) (b3 : 0 ≤ house → k.ok → first < 0 → er "InvalidTick" (.int first)) :
      DnC K H ok er [.str "letter", b0, .ref tp, kv]
theorem DnC.on {K : PySem.W.Frag} {H H1 : Hp} {ok : V → Hp → Prop} {er : Str → V → Prop} {vs : List V} (s : Same H H1) (h : DnC K H ok er vs) : DnC K H1 ok er vs := by
  cases h with
  | put sa hw ht hl hs st g b h => exact .put ((same_tf s).sq sa) hw ht (hl.tf (same_tf s)) hs ((same_tf s).sq st) (fun i t u p H' s' => g i t u p H' (s.trans s')) b h
  | taken sa hw hk g b => exact .taken ((same_tf s).sq sa) hw hk (fun n x e hx u r H' s' => g n x e hx u r H' (s.trans s')) b
  | doubled sa hw hk g b => exact .doubled ((same_tf s).sq sa) hw hk (fun n x e hx u H' s' => g n x e hx u H' (s.trans s')) b
  | size hl hs st g b => exact .size (hl.tf (same_tf s)) hs ((same_tf s).sq st) (fun i H' s' => g i H' (s.trans s')) b
  | letter st hk sh mh mf mk kn g b1 b2 b3 => exact .letter ((same_tf s).sq st) (hk.tf s) ((same_tf s).sq sh) mh mf mk kn (fun h0 o f u H' s' => g h0 o f u H' (s.trans s')) b1 b2 b3
theorem keepE {K : PySem.W.Frag} {H1 : Hp} {x : Str} {v : V} {D : Ends} {a0 a1 a2 a3 : Option V} (c0 : CF K (He.ga K x)) (hn : ∀ ae G, Same H1 G → ExH K G ae x v → D.nx [a0, a1, a2, a3, some .non, some (.ref ae), none] G) :
    Err K H1 x v (WE (wKeep K (.ref (He.ga K "GameError")) 6 (fun _ _ _ => tAsg (tVar 6) (gName 5)) (fun _ _ _ _ => False) D) [a0, a1, a2, a3, some .non, some .non, none]) := fun H' dx s hdx => by
  refine ⟨true, c0.game, fun _ ae hae => ⟨_, rfl, ?_⟩, fun q => Bool.noConfusion q⟩
  have ndx : dx ≠ ae := fun z => by rw [z, upd_same] at hae; cases hae
  have sx := new_same (o := .xd [(("value" : Str), v)]) hdx
  have sae := new_same (o := CxO (.ref (He.ga K x)) (some dx) ae) hae
  exact hn ae _ ((s.trans sx).trans sae) ⟨dx, upd_same, sae _ _ upd_same⟩
section
variable {P : Program} {w : World} {K : PySem.W.Frag} {mg : Str → Option Value} {base : Heap}
def spDn (K : PySem.W.Frag) : Sp := fun vs H Q _ => vs.length = 4 ∧ ∃ (ok : V → Hp → Prop) (er : Str → V → Prop), DnC K H ok er vs ∧ (∀ u H1 H2, Same H1 H2 → ok u H1 → ok u H2) ∧
  (∀ (t : Addr) (u : V) H', Same H H' → ok u H' → SqT K H' t [u, .non] → Q (.ref t) H') ∧ (∀ (t ae : Addr) (x : Str) (v : V) H', Same H H' → er x v → ExH K H' ae x v → SqT K H' t [.non, .ref ae] → Q (.ref t) H')
theorem scDn : FnScope ["word", "bag", "thing", "k", "found", "caught", "e"] ["word", "bag", "thing", "k"] (defScope s_law_done) := ⟨rfl, rfl, rfl, by decide +kernel, rfl, by decide +kernel, by decide +kernel⟩
theorem ok_law_done (T : Txt K w mg) : FnOk P w K mg base CX0 7 (He.fAd K ("_law_done", none)) (fdAt K (He.fAd K ("_law_done", none))) ["word", "bag", "thing", "k"] (spDn K) := by
  have kbP : KBinds K (fdAt K (He.fAd K ("put", none))) ["bag", "to", "letter"] ["letter", "to", "bag"] kR kR := kb_rev T.F_put (by decide) fun _ _ _ _ _ _ ws hl => match ws, hl with | [_, _, _], _ => rfl
  have kbT : KBinds K (fdAt K (He.fAd K ("taken", none))) ["bag", "k"] ["k", "bag"] kR kR := kb_rev T.F_taken (by decide) fun _ _ _ _ _ _ ws hl => match ws, hl with | [_, _], _ => rfl
  have kbD : KBinds K (fdAt K (He.fAd K ("doubled", none))) ["bag", "k"] ["k", "bag"] kR kR := kb_rev T.F_doubled (by decide) fun _ _ _ _ _ _ ws hl => match ws, hl with | [_, _], _ => rfl
  refine T.F_law_done.ok scDn (fun vs H Q E h => ?_) (fun cdv A outer s H vs Q E hr h => ?_)
  · exact h.1
  · obtain ⟨_, ok, er, hc, okS, kg, kb⟩ := h
    have hr6 : Room 6 _ := hr
    have hr4 : Room 4 _ := hr.mono (by decide)
    refine ⟨_, PSs.nox (pss_cons (ps_asg (pe_tup (pa_cons pe_non (pa_cons pe_non pa_nil))) (pg_tup (by rfl) (pgs_cons (pg_name (i := 4) scDn.nd rfl (Or.inl rfl)) (pgs_cons (pg_name (i := 5) scDn.nd rfl (Or.inl rfl)) pgs_nil))))
      (pss_cons (ps_try_keep (i := 6) (Wo := fun _ _ _ _ => False) rfl rfl rfl scDn.nd rfl rfl ⟨rfl, by decide, Or.inl T.g_GameError⟩ takes0 (fun W pn xe tk _ => pss_one (ps_if (pt_cmpR op_eq (pv 0) pe_str (nomark _)) (pss_one (ps_set (i := 4) scDn.nd rfl (Or.inl rfl) (pe_ifExp (pt_cmpR op_ne (pv 3) pe_int (nomark _)) (pe_callS (ok_put T) hr6 (by rfl) T.g_put T.F_put.kp T.b_put (fun σ => passAt tk σ) (pa_cons (pv 1) (pa_cons (pe_ix (r := rIxT K) ix_tup (pv 2) pe_int (fun _ _ => rfl)) (pa_cons (pe_ix (r := rIxT K) ix_tup (pv 2) pe_int (fun _ _ => rfl)) pa_nil)))) (pe_callKwS (ok_put T) hr6 (by rfl) T.g_put T.F_put.kp kbP (fun σ => passAt tk σ) (pk_cons (pe_ix (r := rIxT K) ix_tup (pv 2) pe_int (fun _ _ => rfl)) (pk_cons (pe_ix (r := rIxT K) ix_tup (pv 2) pe_int (fun _ _ => rfl)) (pk_cons (pv 1) pk_nil))))))) (pss_one (ps_if (pt_cmpR op_eq (pv 0) pe_str (nomark _)) (pss_one (ps_set (i := 4) scDn.nd rfl (Or.inl rfl) (pe_ifExp (pt_cmpR op_ne (pv 3) pe_int (nomark _)) (pe_callS (ok_taken T) hr4 (by rfl) T.g_taken T.F_taken.kp T.b_taken (fun σ => passAt tk σ) (pa_cons (pv 1) (pa_cons (pv 3) pa_nil))) (pe_callKwS (ok_taken T) hr4 (by rfl) T.g_taken T.F_taken.kp kbT (fun σ => passAt tk σ) (pk_cons (pv 3) (pk_cons (pv 1) pk_nil)))))) (pss_one (ps_if (pt_cmpR op_eq (pv 0) pe_str (nomark _)) (pss_one (ps_set (i := 4) scDn.nd rfl (Or.inl rfl) (pe_ifExp (pt_cmpR op_ne (pv 3) pe_int (nomark _)) (pe_callS (ok_doubled T) hr4 (by rfl) T.g_doubled T.F_doubled.kp T.b_doubled (fun σ => passAt tk σ) (pa_cons (pv 1) (pa_cons (pv 3) pa_nil))) (pe_callKwS (ok_doubled T) hr4 (by rfl) T.g_doubled T.F_doubled.kp kbD (fun σ => passAt tk σ) (pk_cons (pv 3) (pk_cons (pv 1) pk_nil)))))) (pss_one (ps_if (pt_cmpR op_eq (pv 0) pe_str (nomark _)) (pss_one (ps_set (i := 4) scDn.nd rfl (Or.inl rfl) (pe_callS (ok_size_in_bits T) hr6 (by rfl) T.g_size_in_bits T.F_size_in_bits.kp T.b_size_in_bits (fun σ => passAt tk σ) (pa_cons (pe_ix (r := rIxT K) ix_tup (pv 2) pe_int (fun _ _ => rfl)) pa_nil)))) (pss_one (ps_set (i := 4) scDn.nd rfl (Or.inl rfl) (pe_callS (ok_letter T) hr6 (by rfl) T.g_letter T.F_letter.kp T.b_letter (fun σ => passAt tk σ) (pa_cons (pe_ix (r := rIxT K) ix_tup (pv 2) pe_int (fun _ _ => rfl)) (pa_cons (pe_ix (r := rIxT K) ix_tup (pv 2) pe_int (fun _ _ => rfl)) (pa_cons (pe_ix (r := rIxT K) ix_tup (pv 2) pe_int (fun _ _ => rfl)) (pa_cons (pe_ix (r := rIxT K) ix_tup (pv 2) pe_int (fun _ _ => rfl)) pa_nil))))))))))))))) (fun ae ob cl dx pn hz hf => pss_one (ps_set (i := 5) scDn.nd rfl (Or.inl rfl) (pv 6))))
      (pss_one (ps_ret (pe_tup (pa_cons (pv 4) (pa_cons (pv 5) pa_nil))))))), ?_⟩
    refine ⟨(show 2 ≤ sizeLine by decide), fun p np => ⟨p, _, rfl, SqT.of upd_same, rfl, _, _, rfl, _, _, rfl, rfl, ?_⟩⟩
    have sp := new_same (o := .tup [.non, .non]) np
    replace hc := hc.on sp
    generalize upd H p (.tup [.non, .non]) = H1 at sp hc ⊢
    have hn : ∀ {x : Str} {v : V}, x ∈ cs → er x v → ∀ {a0 a1 a2 a3 : Option V} (ae : Addr) (G : Hp), Same H1 G → ExH K G ae x v → (tRet (tTup (tCons (tVar 4) (tCons (tVar 5) tNil)))) { nx := fun x H' => Q V.non H', rt := Q } [a0, a1, a2, a3, some .non, some (.ref ae), none] G := fun {x v} hx he a0 a1 a2 a3 ae G s hE =>
      ⟨_, rfl, _, rfl, (show 2 ≤ sizeLine by decide), fun t nt => kb t ae x v _ ((sp.trans s).trans (new_same nt)) he (hE.on (new_same nt)) (SqT.of upd_same)⟩
    have hg : ∀ {u : V} {H' : Hp}, Same H1 H' → ok u H' → ∀ {a0 a1 a2 a3 : Option V}, (tRet (tTup (tCons (tVar 4) (tCons (tVar 5) tNil)))) { nx := fun x H' => Q V.non H', rt := Q } [a0, a1, a2, a3, some u, some .non, none] H' := fun {u H'} s ho a0 a1 a2 a3 =>
      ⟨_, rfl, _, rfl, (show 2 ≤ sizeLine by decide), fun t nt => kg t u _ ((sp.trans s).trans (new_same nt)) (okS u _ _ (new_same nt) ho) (SqT.of upd_same)⟩
    cases hc with
    | @put a tp to k v l ws sa hw ht hl hs st g b h =>
      refine ⟨_, rfl, by rfl, _, rfl, ite2 (fun _ => ?_) (fun z => absurd (by decide +kernel) z)⟩
      refine ⟨_, rfl, by rfl, _, rfl, ite2 (fun _ => ?_) (fun _ => ?_)⟩
      · exact ⟨_, rfl, _, rfl, tp, _, _, _, rfl, rfl, st, atI_nat (j := 0) rfl, _, rfl, tp, _, _, _, rfl, rfl, st, atI_nat (j := 1) rfl, a, to, v, l, ws, rfl, sa, hw, ht, hl, hs, fun i0 i1 u p H' s' q1 q2 => hg s' (g i0 i1 u p H' s' q1 q2), fun i0 => keepE (cf_of T.ex (x := "InvalidLetter") (by decide +kernel)) (hn (by decide +kernel) (b i0)), fun i0 i1 => keepE (cf_of T.ex (x := "InvalidHouse") (by decide +kernel)) (hn (by decide +kernel) (h i0 i1))⟩
      · exact ⟨_, rfl, tp, _, _, _, rfl, rfl, st, atI_nat (j := 1) rfl, _, rfl, tp, _, _, _, rfl, rfl, st, atI_nat (j := 0) rfl, _, rfl, a, to, v, l, ws, rfl, sa, hw, ht, hl, hs, fun i0 i1 u p H' s' q1 q2 => hg s' (g i0 i1 u p H' s' q1 q2), fun i0 => keepE (cf_of T.ex (x := "InvalidLetter") (by decide +kernel)) (hn (by decide +kernel) (b i0)), fun i0 i1 => keepE (cf_of T.ex (x := "InvalidHouse") (by decide +kernel)) (hn (by decide +kernel) (h i0 i1))⟩
    | @taken a k ws th sa hw hk g b =>
      refine ⟨_, rfl, by rfl, _, rfl, ite2 (fun z => absurd z (by decide +kernel)) (fun _ => ?_)⟩
      refine ⟨_, rfl, by rfl, _, rfl, ite2 (fun _ => ?_) (fun z => absurd (by decide +kernel) z)⟩
      refine ⟨_, rfl, by rfl, _, rfl, ite2 (fun _ => ?_) (fun _ => ?_)⟩
      · exact ⟨_, rfl, _, rfl, a, k, ws, rfl, sa, hw, hk, fun n x e hx u r H' s' q1 q2 => hg s' (g n x e hx u r H' s' q1 q2), fun i0 => keepE (cf_of T.ex (x := "InvalidPlace") (by decide +kernel)) (hn (by decide +kernel) (b i0))⟩
      · exact ⟨_, rfl, _, rfl, a, k, ws, rfl, sa, hw, hk, fun n x e hx u r H' s' q1 q2 => hg s' (g n x e hx u r H' s' q1 q2), fun i0 => keepE (cf_of T.ex (x := "InvalidPlace") (by decide +kernel)) (hn (by decide +kernel) (b i0))⟩
    | @doubled a k ws th sa hw hk g b =>
      refine ⟨_, rfl, by rfl, _, rfl, ite2 (fun z => absurd z (by decide +kernel)) (fun _ => ?_)⟩
      refine ⟨_, rfl, by rfl, _, rfl, ite2 (fun z => absurd z (by decide +kernel)) (fun _ => ?_)⟩
      refine ⟨_, rfl, by rfl, _, rfl, ite2 (fun _ => ?_) (fun z => absurd (by decide +kernel) z)⟩
      refine ⟨_, rfl, by rfl, _, rfl, ite2 (fun _ => ?_) (fun _ => ?_)⟩
      · exact ⟨_, rfl, _, rfl, a, k, ws, rfl, sa, hw, hk, fun n x e hx u H' s' q1 => hg s' (g n x e hx u H' s' q1), fun i0 => keepE (cf_of T.ex (x := "InvalidPlace") (by decide +kernel)) (hn (by decide +kernel) (b i0))⟩
      · exact ⟨_, rfl, _, rfl, a, k, ws, rfl, sa, hw, hk, fun n x e hx u H' s' q1 => hg s' (g n x e hx u H' s' q1), fun i0 => keepE (cf_of T.ex (x := "InvalidPlace") (by decide +kernel)) (hn (by decide +kernel) (b i0))⟩
    | @size tp b0 t0 v kv l hl hs st g b =>
      refine ⟨_, rfl, by rfl, _, rfl, ite2 (fun z => absurd z (by decide +kernel)) (fun _ => ?_)⟩
      refine ⟨_, rfl, by rfl, _, rfl, ite2 (fun z => absurd z (by decide +kernel)) (fun _ => ?_)⟩
      refine ⟨_, rfl, by rfl, _, rfl, ite2 (fun z => absurd z (by decide +kernel)) (fun _ => ?_)⟩
      refine ⟨_, rfl, by rfl, _, rfl, ite2 (fun _ => ?_) (fun z => absurd (by decide +kernel) z)⟩
      exact ⟨_, rfl, tp, _, _, _, rfl, rfl, st, atI_nat (j := 1) rfl, v, l, rfl, hl, hs, fun i0 H' s' => hg s' (g i0 H' s'), fun i0 => keepE (cf_of T.ex (x := "InvalidLetter") (by decide +kernel)) (hn (by decide +kernel) (b i0))⟩
    | @letter tp h house first b0 v kv k hs st hk sh mh mf mk kn g b1 b2 b3 =>
      refine ⟨_, rfl, by rfl, _, rfl, ite2 (fun z => absurd z (by decide +kernel)) (fun _ => ?_)⟩
      refine ⟨_, rfl, by rfl, _, rfl, ite2 (fun z => absurd z (by decide +kernel)) (fun _ => ?_)⟩
      refine ⟨_, rfl, by rfl, _, rfl, ite2 (fun z => absurd z (by decide +kernel)) (fun _ => ?_)⟩
      refine ⟨_, rfl, by rfl, _, rfl, ite2 (fun z => absurd z (by decide +kernel)) (fun _ => ?_)⟩
      exact ⟨_, rfl, tp, _, _, _, rfl, rfl, st, atI_nat (j := 0) rfl, _, rfl, tp, _, _, _, rfl, rfl, st, atI_nat (j := 1) rfl, _, rfl, tp, _, _, _, rfl, rfl, st, atI_nat (j := 2) rfl, _, rfl, tp, _, _, _, rfl, rfl, st, atI_nat (j := 3) rfl, house, first, v, h, k, hs, rfl, hk, sh, mh, mf, mk, kn, fun i0 i1 i2 u H' s' q => hg s' (g i0 i1 i2 u H' s' q), fun i0 => keepE (cf_of T.ex (x := "InvalidHouse") (by decide +kernel)) (hn (by decide +kernel) (b1 i0)), fun i0 i1 => keepE (cf_of T.ex (x := "InvalidKnown") (by decide +kernel)) (hn (by decide +kernel) (b2 i0 i1)), fun i0 i1 i2 => keepE (cf_of T.ex (x := "InvalidTick") (by decide +kernel)) (hn (by decide +kernel) (b3 i0 i1 i2))⟩
end
end K51
set_option maxRecDepth 100000
set_option maxHeartbeats 4000000
/-! What a deed with a bag should tell. -/
namespace K51
open PySem PySem.Spec PyProof.Rows L2 KF KD
section
variable {P : Program} {w : World} {K : PySem.W.Frag} {mg : Str → Option Value} {base : Heap}
inductive DuC (K : PySem.W.Frag) (H : Hp) (Q : VK) : List V → Prop
  | put {B : Addr} {th kv : V} {g : Bool} {ws : List V} (hB : H B = some (.lst ws)) (hw : ws.length ≤ 100) (y : g = true → ∀ (u : Addr) H', Same H H' → SqT K H' u (ws ++ [th]) → Q (.ref u) H') (n : g = false → ∀ H', Same H H' → Q .non H') :
      DuC K H Q [.str "put", .ref B, th, kv, .bl g]
  | taken {B : Addr} {th : V} {k : Int} {g : V} {ws : List V} (hB : H B = some (.lst ws)) (hw : ws.length ≤ 100) (y : ∀ (n : Nat) x, k = (n : Int) → ws[n]? = some x → ∀ (u r : Addr) H', Same H H' → SqT K H' u [x, .ref r] → SqT K H' r (ws.take n ++ ws.drop (n + 1)) → Q (.ref u) H')
      (n : ¬ (0 ≤ k ∧ k < ws.length) → ∀ H', Same H H' → Q .non H') : DuC K H Q [.str "taken", .ref B, th, .int k, g]
  | doubled {B : Addr} {th : V} {k : Int} {g : V} {ws : List V} (hB : H B = some (.lst ws)) (hw : ws.length ≤ 100) (y : ∀ (n : Nat) x, k = (n : Int) → ws[n]? = some x → ∀ (u : Addr) H', Same H H' → SqT K H' u (ws ++ [x]) → Q (.ref u) H')
      (n : ¬ (0 ≤ k ∧ k < ws.length) → ∀ H', Same H H' → Q .non H') : DuC K H Q [.str "doubled", .ref B, th, .int k, g]
def spDu (K : PySem.W.Frag) : Sp := fun vs H Q _ => vs.length = 5 ∧ DuC K H Q vs
theorem scDu : FnScope ["word", "bag", "thing", "k", "good"] ["word", "bag", "thing", "k", "good"] (defScope s_law_due) := ⟨rfl, rfl, rfl, by decide +kernel, rfl, by decide +kernel, by decide +kernel⟩
theorem ok_law_due (T : Txt K w mg) : FnOk P w K mg base CX0 1 (He.fAd K ("_law_due", none)) (fdAt K (He.fAd K ("_law_due", none))) ["word", "bag", "thing", "k", "good"] (spDu K) := by
  refine T.F_law_due.ok scDu (fun vs H Q E h => ?_) (fun cdv A outer s H vs Q E hr h => ?_)
  · exact h.1
  · obtain ⟨_, hc⟩ := h
    refine ⟨_, PSs.nox (pss_cons (ps_if (pt_cmpR op_eq (pv 0) pe_str (nomark _)) (pss_one (ps_ret (pe_ifExp (pt_val (pv 4)) (pe_callTy call_tuple_of (by rfl) T.n_tuple PyProof.Rows.Boot.«tuple» (pa_cons (pe_op op_cat (pv 1) (pe_lst (pa_cons (pv 2) pa_nil))) pa_nil)) pe_non))) pss_nil)
      (pss_cons (ps_if (PW.pt (pw_or (pt_cmpR op_lt (pv 3) pe_int (nomark _)) (pw_or1 (pt_cmpR op_ge (pv 3) (pe_callB (r := Evl.rLenS K) call_len_seq (by rfl) T.n_len PyProof.Rows.Boot.«len» (pa_cons (pv 1) pa_nil)) (nomark _))))) (pss_one (ps_ret pe_non)) pss_nil)
      (pss_one (ps_ret (pe_ifExp (pt_cmpR op_eq (pv 0) pe_str (nomark _)) (pe_tup (pa_cons (pe_ix (r := rIxL K) ix_list (pv 1) (pv 3) (fun _ _ => rfl)) (pa_cons (pe_callTy call_tuple_of (by rfl) T.n_tuple PyProof.Rows.Boot.«tuple» (pa_cons (pe_op op_cat (pe_slice sl_list (pv 1) po_none (po_some (pv 3))) (pe_slice sl_list (pv 1) (po_some (pe_op op_add (pv 3) pe_int)) po_none)) pa_nil)) pa_nil))) (pe_callTy call_tuple_of (by rfl) T.n_tuple PyProof.Rows.Boot.«tuple» (pa_cons (pe_op op_cat (pv 1) (pe_lst (pa_cons (pe_ix (r := rIxL K) ix_list (pv 1) (pv 3) (fun _ _ => rfl)) pa_nil))) pa_nil))))))), ?_⟩
    cases hc with
    | @put B th kv g ws hB hw y n =>
      refine ⟨_, rfl, by rfl, _, rfl, ite2 (fun _ => ?_) (fun z => absurd (by decide +kernel) z)⟩
      refine ⟨_, rfl, g, rfl, ?_⟩
      cases g with
      | true =>
        refine iteT ⟨_, rfl, _, rfl, (show 1 ≤ sizeLine by decide), fun p np => ?_⟩
        have s1 := new_same (o := .lst [th]) np
        refine ⟨B, p, _, _, rfl, rfl, s1 _ _ hB, upd_same, Nat.le_trans (show _ ≤ 101 by simp; omega) (by decide), fun q nq => ⟨q, _, rfl, .inl ⟨SqL.of upd_same, fun t nt => ?_⟩⟩⟩
        exact y rfl t _ ((s1.trans (new_same nq)).trans (new_same nt)) (SqT.of upd_same)
      | false => exact iteF (n rfl H (Same.refl H))
    | @taken B th k g ws hB hw y n =>
      refine ⟨_, rfl, by rfl, _, rfl, ite2 (fun z => absurd z (by decide +kernel)) (fun _ => ?_)⟩
      dsimp only [tNext]
      refine ⟨_, rfl, _, _, rfl, rfl, _, rfl, ite2 (fun z => ?_) (fun z => ?_)⟩
      · exact iteT (n (by have := of_decide_eq_true z; omega) H (Same.refl H))
      have h0 : 0 ≤ k := by
        have : ¬ k < 0 := fun q => z (decide_eq_true q)
        omega
      refine ⟨_, rfl, _, rfl, B, _, rfl, .inl (SqL.of hB), _, _, rfl, rfl, _, rfl, ite2 (fun z => ?_) (fun z => ?_)⟩
      · have hz : (ws.length : Int) ≤ k := of_decide_eq_true z
        exact n (by omega) H (Same.refl H)
      have h1 : ¬ (ws.length : Int) ≤ k := fun q => z (decide_eq_true q)
      rcases place (k := k) (ws := ws) with ⟨m, x, rfl, hx, hm⟩ | hno
      · dsimp only [tNext]
        refine ⟨_, rfl, by rfl, _, rfl, ite2 (fun _ => ?_) (fun z => absurd (by decide +kernel) z)⟩
        refine ⟨_, rfl, _, rfl, B, _, _, _, rfl, rfl, SqL.of hB, atI_nat hx, ?_⟩
        refine ⟨_, rfl, _, rfl, _, rfl, B, _, rfl, SqL.of hB, fun p1 np1 => ?_⟩
        rw [cut_toV (by omega)]
        have s1 := new_same (o := .lst (ws.take m)) np1
        refine ⟨_, rfl, _, rfl, _, _, rfl, rfl, _, rfl, B, _, rfl, SqL.of (s1 _ _ hB), fun p2 np2 => ?_⟩
        rw [show (m : Int) + 1 = ((m + 1 : Nat) : Int) by omega, cut_fromV (by omega)]
        have s2 := new_same (o := .lst (ws.drop (m + 1))) np2
        refine ⟨p1, p2, _, _, rfl, rfl, s2 _ _ upd_same, upd_same, Nat.le_trans (show _ ≤ 101 by rw [List.length_take, List.length_drop]; omega) (by decide), fun p3 np3 => ⟨p3, _, rfl, .inl ⟨SqL.of upd_same, fun r nr => ⟨(show 2 ≤ sizeLine by decide), fun u nu => ?_⟩⟩⟩⟩
        have s3 := new_same (o := .lst (ws.take m ++ ws.drop (m + 1))) np3
        have s4 := new_same (o := .tup (ws.take m ++ ws.drop (m + 1))) nr
        have s5 := new_same (o := .tup [x, .ref r]) nu
        exact y m x rfl hx u r _ ((((s1.trans s2).trans s3).trans s4).trans s5) (SqT.of upd_same) ((same_tf s5).sq (SqT.of upd_same))
      · exact absurd ⟨h0, by omega⟩ hno
    | @doubled B th k g ws hB hw y n =>
      refine ⟨_, rfl, by rfl, _, rfl, ite2 (fun z => absurd z (by decide +kernel)) (fun _ => ?_)⟩
      dsimp only [tNext]
      refine ⟨_, rfl, _, _, rfl, rfl, _, rfl, ite2 (fun z => ?_) (fun z => ?_)⟩
      · exact iteT (n (by have := of_decide_eq_true z; omega) H (Same.refl H))
      have h0 : 0 ≤ k := by
        have : ¬ k < 0 := fun q => z (decide_eq_true q)
        omega
      refine ⟨_, rfl, _, rfl, B, _, rfl, .inl (SqL.of hB), _, _, rfl, rfl, _, rfl, ite2 (fun z => ?_) (fun z => ?_)⟩
      · have hz : (ws.length : Int) ≤ k := of_decide_eq_true z
        exact n (by omega) H (Same.refl H)
      have h1 : ¬ (ws.length : Int) ≤ k := fun q => z (decide_eq_true q)
      rcases place (k := k) (ws := ws) with ⟨m, x, rfl, hx, hm⟩ | hno
      · dsimp only [tNext]
        refine ⟨_, rfl, by rfl, _, rfl, ite2 (fun z => absurd z (by decide +kernel)) (fun _ => ?_)⟩
        refine ⟨_, rfl, _, rfl, _, rfl, B, _, _, _, rfl, rfl, SqL.of hB, atI_nat hx, (show 1 ≤ sizeLine by decide), fun p np => ?_⟩
        have s1 := new_same (o := .lst [x]) np
        refine ⟨B, p, _, _, rfl, rfl, s1 _ _ hB, upd_same, Nat.le_trans (show _ ≤ 101 by simp; omega) (by decide), fun q nq => ⟨q, _, rfl, .inl ⟨SqL.of upd_same, fun t nt => ?_⟩⟩⟩
        exact y m x rfl hx t _ ((s1.trans (new_same nq)).trans (new_same nt)) (SqT.of upd_same)
      · exact absurd ⟨h0, by omega⟩ hno
end
end K51
set_option maxRecDepth 100000
set_option maxHeartbeats 4000000
/-! Deeds with a bag. -/
namespace K51
open PySem PySem.Spec PyProof.Rows L2 KF KD
abbrev It := Int × Le
def ipy (i : It) : PyData := .tuple [.int i.1, lpy i.2]
theorem nl_it (i : It) : NL (ipy i) := ⟨trivial, nl_le i.2, trivial⟩
theorem nl_its : ∀ l : List It, NLs (l.map ipy)
  | [] => trivial
  | i :: l => ⟨nl_it i, nl_its l⟩
def ItOk (i : It) : Prop := i.2.row.length ≤ 40 ∧ i.2.heard.length ≤ 40
theorem al_up : ∀ (n : Nat) (d : PyData), AlOk n d → AlOk (n + 1) d
  | 0, .none, _ => trivial
  | 0, .int _, _ => trivial
  | 0, .bool _, h => h.elim
  | 0, .str _, h => h.elim
  | 0, .list _, h => h.elim
  | 0, .tuple _, h => h.elim
  | 0, .dict _, h => h.elim
  | n + 1, .none, _ => trivial
  | n + 1, .int _, _ => trivial
  | n + 1, .bool _, h => h.elim
  | n + 1, .str _, h => h.elim
  | n + 1, .list _, h => h.elim
  | n + 1, .dict _, h => h.elim
  | n + 1, .tuple ds, h => ⟨h.1, h.2.1, fun e he => al_up n e (h.2.2 e he)⟩
theorem al_it {i : It} (h : ItOk i) : AlOk 3 (ipy i) := ⟨(show 2 ≤ 1100 by decide), ⟨trivial, nl_le i.2, trivial⟩, fun e he => by
  rcases List.mem_cons.mp he with rfl | he
  · trivial
  · rw [List.mem_singleton.mp he]
    exact al_le (by have := h.1; omega) (by have := h.2; omega)⟩
theorem al_its {l : List It} (h : l.length ≤ 100) (h2 : ∀ i ∈ l, ItOk i) : AlOk 4 (.tuple (l.map ipy)) := ⟨by rw [List.length_map]; omega, nl_its l, fun e he => by
  obtain ⟨i, hi, rfl⟩ := List.mem_map.mp he
  exact al_it (h2 i hi)⟩
theorem al_tk {i : It} {l : List It} (hi : ItOk i) (h : l.length ≤ 100) (h2 : ∀ i ∈ l, ItOk i) : AlOk 5 (.tuple [ipy i, .tuple (l.map ipy)]) := ⟨(show 2 ≤ 1100 by decide), ⟨nl_it i, nl_its l, trivial⟩, fun e he => by
  rcases List.mem_cons.mp he with rfl | he
  · exact al_up 3 _ (al_it hi)
  · rw [List.mem_singleton.mp he]
    exact al_its h h2⟩
theorem it_dp {K : PySem.W.Frag} {H : Hp} {p : Addr} {to : Int} {v : V} {l : Le} (h : SqT K H p [.int to, v]) (hl : LeH K H v l) : Dp K H (.ref p) (ipy (to, l)) := .tup h (.cons (.int _) (.cons (dp_le hl) .nil))
theorem dpa_app : ∀ {K : PySem.W.Frag} {H : Hp} {xs ys : List V} {ds es : List PyData}, DpAll K H xs ds → DpAll K H ys es → DpAll K H (xs ++ ys) (ds ++ es)
  | _, _, _, _, _, _, .nil, h => h
  | _, _, _, _, _, _, .cons a t, h => .cons a (dpa_app t h)
theorem dpa_take {K : PySem.W.Frag} {H : Hp} : ∀ (k : Nat) {vs : List V} {ds : List PyData}, DpAll K H vs ds → DpAll K H (vs.take k) (ds.take k)
  | 0, _, _, _ => .nil
  | _ + 1, _, _, .nil => .nil
  | k + 1, _, _, .cons a t => .cons a (dpa_take k t)
theorem dpa_drop {K : PySem.W.Frag} {H : Hp} : ∀ (k : Nat) {vs : List V} {ds : List PyData}, DpAll K H vs ds → DpAll K H (vs.drop k) (ds.drop k)
  | 0, _, _, h => h
  | _ + 1, _, _, .nil => .nil
  | k + 1, _, _, .cons _ t => dpa_drop k t
/-- the bag of the law, the bag of the program: the same things -/
structure Bags (K : PySem.W.Frag) (H : Hp) (B TT : Addr) (its : List It) : Prop where
  ex : ∃ ws us, H B = some (.lst ws) ∧ SqT K H TT us ∧ DpAll K H ws (its.map ipy) ∧ DpAll K H us (its.map ipy)
  ok : ∀ i ∈ its, ItOk i
theorem seq_cut2 {a b c : TS} {D : Ends} {σ : L2.St} {H : Hp} (Pv : L2.St → Hp → Prop) (hb : ∀ σ' H', Pv σ' H' → c D σ' H') (ha : ∀ R : L2.St → Hp → Prop, (∀ σ' H', Pv σ' H' → R σ' H') → tSeq a b { D with nx := R } σ H) : tSeq a (tSeq b c) D σ H := ha _ hb
theorem Bags.frm {K : PySem.W.Frag} {H H' : Hp} {B TT d : Addr} {its : List It} {xd : List V} (f : Frm d H H') (hd : H d = some (.lst xd)) (hB : B ≠ d) (b : Bags K H B TT its) : Bags K H' B TT its := by
  obtain ⟨⟨ws, us, h1, h2, h3, h4⟩, h5⟩ := b
  exact ⟨⟨ws, us, f B _ hB h1, (f.tf hd).sq h2, dpa_nl (f.tf hd) _ _ (nl_its _) h3, dpa_nl (f.tf hd) _ _ (nl_its _) h4⟩, h5⟩
def OkR (K : PySem.W.Frag) : Bool → It → List It → V → Hp → Prop
  | true, it, its, u, H => ∃ (q r : Addr) (x : V) (us : List V), u = .ref q ∧ SqT K H q [x, .ref r] ∧ Dp K H x (ipy it) ∧ SqT K H r us ∧ DpAll K H us (its.map ipy)
  | false, _, its, u, H => ∃ (q : Addr) (us : List V), u = .ref q ∧ SqT K H q us ∧ DpAll K H us (its.map ipy)
def ddOf : Bool → It → List It → PyData
  | true, it, its => .tuple [ipy it, .tuple (its.map ipy)]
  | false, _, its => .tuple (its.map ipy)
theorem nl_dd : ∀ (tk : Bool) (it : It) (its : List It), NL (ddOf tk it its)
  | true, it, its => ⟨nl_it it, nl_its its, trivial⟩
  | false, _, its => nl_its its
theorem al_dd : ∀ (tk : Bool) {it : It} {its : List It}, ItOk it → its.length ≤ 100 → (∀ i ∈ its, ItOk i) → AlOk 5 (ddOf tk it its)
  | true, _, _, h1, h2, h3 => al_tk h1 h2 h3
  | false, _, _, _, h2, h3 => al_up 4 _ (al_its h2 h3)
theorem OkR.on {K : PySem.W.Frag} {H H' : Hp} : ∀ {tk : Bool} {it : It} {its : List It} {u : V}, OkR K tk it its u H → Same H H' → OkR K tk it its u H'
  | true, _, _, _, ⟨q, r, x, us, e, h1, h2, h3, h4⟩, s => ⟨q, r, x, us, e, (same_tf s).sq h1, dp_nl (same_tf s) _ _ (nl_it _) h2, (same_tf s).sq h3, dpa_nl (same_tf s) _ _ (nl_its _) h4⟩
  | false, _, _, _, ⟨q, us, e, h1, h2⟩, s => ⟨q, us, e, (same_tf s).sq h1, dpa_nl (same_tf s) _ _ (nl_its _) h2⟩
theorem OkR.ref {K : PySem.W.Frag} {H : Hp} : ∀ {tk : Bool} {it : It} {its : List It} {u : V}, OkR K tk it its u H → ∃ q, u = .ref q
  | true, _, _, _, ⟨q, _, _, _, e, _⟩ => ⟨q, e⟩
  | false, _, _, _, ⟨q, _, e, _⟩ => ⟨q, e⟩
theorem OkR.dp {K : PySem.W.Frag} {H : Hp} : ∀ {tk : Bool} {it : It} {its : List It} {u : V}, OkR K tk it its u H → Dp K H u (ddOf tk it its)
  | true, _, _, _, ⟨q, r, x, us, e, h1, h2, h3, h4⟩ => by
    subst e
    exact .tup h1 (.cons h2 (.cons (.tup h3 h4) .nil))
  | false, _, _, _, ⟨q, us, e, h1, h2⟩ => by
    subst e
    exact .tup h1 h2
theorem andV {σ : L2.St} {H : Hp} {Q : VK} {g : Bool} {to : Int} (h5 : σ[5]? = some (some (.bl g))) (h6 : σ[6]? = some (some (.int to))) (q : Q (.bl (g && decide (0 ≤ to))) H) :
    (tAndV (tVar 5) (tOp (rI0 fun i j => V.bl (decide (j ≤ i))) (tVar 6) (tC (V.int 0)))) σ H Q := by
  cases g with
  | true =>
    rw [Bool.true_and] at q
    exact ⟨_, h5, true, rfl, iteT ⟨_, h6, _, _, rfl, rfl, q⟩⟩
  | false => exact ⟨_, h5, false, rfl, iteF q⟩
theorem it_at {K : PySem.W.Frag} {H : Hp} {us : List V} {its : List It} (h : DpAll K H us (its.map ipy)) {n : Nat} {x : V} (hx : us[n]? = some x) : ∃ it, its[n]? = some it ∧ Dp K H x (ipy it) := by
  have hl := dpa_len h
  rw [List.length_map] at hl
  have hn : n < its.length := by
    have := (List.getElem?_eq_some_iff.mp hx).1
    omega
  have he : its[n]? = some its[n] := List.getElem?_eq_getElem hn
  obtain ⟨v, e1, d1⟩ := dpa_get h (show (its.map ipy)[n]? = some (ipy its[n]) by rw [List.getElem?_map, he]; rfl)
  rw [hx] at e1
  cases e1
  exact ⟨_, he, d1⟩
theorem drop_its {its : List It} {n : Nat} : (its.map ipy).take n ++ (its.map ipy).drop (n + 1) = (its.take n ++ its.drop (n + 1)).map ipy := by
  rw [List.map_append, List.map_take, List.map_drop]
/-- what a deed left: the law's, the program's -/
inductive Out (K : PySem.W.Frag) (H : Hp) (TT tp : Addr) (its : List It) (wd : Str) (g : Bool) (to k : Int) (v : V) : Option V → Option V → Option V → Prop
  | yes {du fu : V} (tk : Bool) (it : It) (its' : List It) (ht : tk = true ↔ wd = "taken") (h1 : OkR K tk it its' du H) (h2 : OkR K tk it its' fu H) (hi : ItOk it) (hl : its'.length ≤ its.length + 1) (ho : ∀ i ∈ its', ItOk i)
      (c : DnC K H (OkR K tk it its') (fun _ _ => False) [.str wd, .ref TT, .ref tp, .int k]) : Out K H TT tp its wd g to k v (some du) (some fu) (some .non)
  | no {ae : Addr} {x wx : Str} {z : V} (hx : (x, wx) ∈ wds) (hE : ExH K H ae x z) (hp : wd = "put" → (g = true ∧ wx = "house" ∧ z = .int to) ∨ (g = false ∧ wx = "letter" ∧ z = v)) (hn : wd ≠ "put" → wx = "place" ∧ z = .int k) : Out K H TT tp its wd g to k v (some .non) (some .non) (some (.ref ae))
section
variable {P : Program} {w : World} {K : PySem.W.Frag} {mg : Str → Option Value} {base : Heap}
def spBg : Sp := fun vs H Q _ => ∃ (d : Addr) (n : Nat), vs = [.ref d] ∧ Dk H d (n + 20000) ∧ ∀ H', Frm d H H' → Dk H' d n → Q (.bl true) H'
theorem scBg : FnScope ["deck", "bag", "told", "turn", "word", "good", "to", "thing", "k", "due", "found", "caught", "put_due"] ["deck"] (defScope s_law_bag_right) := ⟨rfl, rfl, rfl, by decide +kernel, rfl, by decide +kernel, by decide +kernel⟩
theorem ok_law_bag_right (T : Txt K w mg) : FnOk P w K mg base CX0 8 (He.fAd K ("_law_bag_right", none)) (fdAt K (He.fAd K ("_law_bag_right", none))) ["deck"] spBg := by
  refine T.F_law_bag_right.ok scBg (fun vs H Q E h => ?_) (fun cdv A outer s H vs Q E hr h => ?_)
  · obtain ⟨d, n, rfl, _⟩ := h
    rfl
  · obtain ⟨d, n, rfl, hD, kk⟩ := h
    refine ⟨_, PSs.nox (pss_cons (ps_par (i := 1) (j := 2) (by rfl) scBg.nd rfl rfl (by decide) rfl rfl (pa_cons (pe_lst pa_nil) (pa_cons (pe_tup pa_nil) pa_nil)) (by rfl))
      (pss_cons (ps_for PassesOwn.never rfl (pi_range1 (by rfl) T.n_range (pa_cons (pe_op op_add pe_int (pe_call (ok_law_draw T) (hr.mono (by decide)) (by rfl) T.g_law_draw (T.F_law_draw).kp T.b_law_draw .nil pass0 (pa_cons (pv 0) (pa_cons pe_int pa_nil)))) pa_nil)) (pg_name (i := 3) scBg.nd rfl (Or.inl rfl)) (pss_cons (ps_set (i := 4) scBg.nd rfl (Or.inl rfl) (pe_ix (r := rIxL K) ix_list (pe_lst (pa_cons pe_str (pa_cons pe_str (pa_cons pe_str (pa_cons pe_str (pa_cons pe_str pa_nil)))))) (pe_call (ok_law_draw T) (hr.mono (by decide)) (by rfl) T.g_law_draw (T.F_law_draw).kp T.b_law_draw .nil pass0 (pa_cons (pv 0) (pa_cons pe_int pa_nil))) (fun _ _ => rfl)))
      (pss_cons (ps_set (i := 5) scBg.nd rfl (Or.inl rfl) (pe_cmpR op_gt (pe_call (ok_law_draw T) (hr.mono (by decide)) (by rfl) T.g_law_draw (T.F_law_draw).kp T.b_law_draw .nil pass0 (pa_cons (pv 0) (pa_cons pe_int pa_nil))) pe_int (nomark _)))
      (pss_cons (ps_set (i := 6) scBg.nd rfl (Or.inl rfl) (pe_ifExp (pt_cmpR op_eq (pe_call (ok_law_draw T) (hr.mono (by decide)) (by rfl) T.g_law_draw (T.F_law_draw).kp T.b_law_draw .nil pass0 (pa_cons (pv 0) (pa_cons pe_int pa_nil))) pe_int (nomark _)) (pe_op op_sub (pe_un un_neg pe_int) (pe_call (ok_law_draw T) (hr.mono (by decide)) (by rfl) T.g_law_draw (T.F_law_draw).kp T.b_law_draw .nil pass0 (pa_cons (pv 0) (pa_cons pe_int pa_nil)))) (pe_call (ok_law_draw T) (hr.mono (by decide)) (by rfl) T.g_law_draw (T.F_law_draw).kp T.b_law_draw .nil pass0 (pa_cons (pv 0) (pa_cons pe_int pa_nil)))))
      (pss_cons (ps_set (i := 7) scBg.nd rfl (Or.inl rfl) (pe_tup (pa_cons (pv 6) (pa_cons (pe_ifExp (pt_val (pv 5)) (pe_call (ok_law_letter T) (hr.mono (by decide)) (by rfl) T.g_law_letter (T.F_law_letter).kp T.b_law_letter .nil pass0 (pa_cons (pv 0) pa_nil)) (pe_call (ok_law_no_letter T) (hr.mono (by decide)) (by rfl) T.g_law_no_letter (T.F_law_no_letter).kp T.b_law_no_letter .nil pass0 (pa_cons (pv 0) pa_nil))) pa_nil))))
      (pss_cons (ps_set (i := 8) scBg.nd rfl (Or.inl rfl) (pe_ix (r := rIxL K) ix_list (pe_lst (pa_cons (pe_call (ok_law_draw T) (hr.mono (by decide)) (by rfl) T.g_law_draw (T.F_law_draw).kp T.b_law_draw .nil pass0 (pa_cons (pv 0) (pa_cons (pe_op op_add (pe_callB (r := Evl.rLenS K) call_len_seq (by rfl) T.n_len PyProof.Rows.Boot.«len» (pa_cons (pv 1) pa_nil)) pe_int) pa_nil))) (pa_cons (pe_un un_neg pe_int) (pa_cons (pe_op op_add (pe_callB (r := Evl.rLenS K) call_len_seq (by rfl) T.n_len PyProof.Rows.Boot.«len» (pa_cons (pv 1) pa_nil)) (pe_call (ok_law_draw T) (hr.mono (by decide)) (by rfl) T.g_law_draw (T.F_law_draw).kp T.b_law_draw .nil pass0 (pa_cons (pv 0) (pa_cons pe_int pa_nil)))) (pa_cons pe_int (pa_cons pe_int pa_nil)))))) (pe_call (ok_law_draw T) (hr.mono (by decide)) (by rfl) T.g_law_draw (T.F_law_draw).kp T.b_law_draw .nil pass0 (pa_cons (pv 0) (pa_cons pe_int pa_nil))) (fun _ _ => rfl)))
      (pss_cons (ps_set (i := 9) scBg.nd rfl (Or.inl rfl) (pe_call (ok_law_due T) (hr.mono (by decide)) (by rfl) T.g_law_due (T.F_law_due).kp T.b_law_due .nil pass0 (pa_cons (pv 4) (pa_cons (pv 1) (pa_cons (pv 7) (pa_cons (pv 8) (pa_cons (pe_and (pv 5) (pe_one (pe_cmpR op_ge (pv 6) pe_int (nomark _)))) pa_nil)))))))
      (pss_cons (ps_asg (pe_call (ok_law_done T) (hr.mono (by decide)) (by rfl) T.g_law_done (T.F_law_done).kp T.b_law_done .nil pass0 (pa_cons (pv 4) (pa_cons (pv 2) (pa_cons (pv 7) (pa_cons (pv 8) pa_nil))))) (pg_tup (by rfl) (pgs_cons (pg_name (i := 10) scBg.nd rfl (Or.inl rfl)) (pgs_cons (pg_name (i := 11) scBg.nd rfl (Or.inl rfl)) pgs_nil))))
      (pss_cons (ps_if (pt_cmpR op_isN (pv 9) pe_non (nomark _)) (pss_cons (ps_set (i := 12) scBg.nd rfl (Or.inl rfl) (pe_ifExp (pt_val (pv 5)) (pe_tup (pa_cons pe_str (pa_cons (pv 6) pa_nil))) (pe_tup (pa_cons pe_str (pa_cons (pe_ix (r := rIxT K) ix_tup (pv 7) pe_int (fun _ _ => rfl)) pa_nil)))))
      (pss_one (ps_if (pt_not (pt_val (pe_call (ok_law_refused T) (hr.mono (by decide)) (by rfl) T.g_law_refused (T.F_law_refused).kp T.b_law_refused .nil pass0 (pa_cons (pv 11) (pa_cons (pe_ifExp (pt_cmpR op_eq (pv 4) pe_str (nomark _)) (pv 12) (pe_tup (pa_cons pe_str (pa_cons (pv 8) pa_nil)))) pa_nil))))) (pss_one (ps_ret pe_bl)) pss_nil))) (pss_one (ps_if (PW.pt (pw_or (pt_cmpR op_notN (pv 11) pe_non (nomark _)) (pw_or1 (pt_not (pt_val (pe_call (ok_law_same T 6) (hr.mono (by omega)) (by rfl) T.g_law_same (T.F_law_same).kp T.b_law_same .nil pass0 (pa_cons (pv 10) (pa_cons (pv 9) pa_nil)))))))) (pss_one (ps_ret pe_bl)) (pss_cons (ps_set (i := 1) scBg.nd rfl (Or.inl rfl) (pe_ifExp (pt_cmpR op_eq (pv 4) pe_str (nomark _)) (pe_callTy call_list_of (by rfl) T.n_list PyProof.Rows.Boot.«list» (pa_cons (pe_ix (r := rIxT K) ix_tup (pv 9) pe_int (fun _ _ => rfl)) pa_nil)) (pe_callTy call_list_of (by rfl) T.n_list PyProof.Rows.Boot.«list» (pa_cons (pv 9) pa_nil))))
      (pss_cons (ps_if (pt_not (pt_val (pe_call (ok_law_same T 6) (hr.mono (by omega)) (by rfl) T.g_law_same (T.F_law_same).kp T.b_law_same .nil pass0 (pa_cons (pe_ix (r := rIxT K) ix_tup (pe_call (ok_law_done T) (hr.mono (by decide)) (by rfl) T.g_law_done (T.F_law_done).kp T.b_law_done .nil pass0 (pa_cons (pv 4) (pa_cons (pv 2) (pa_cons (pv 7) (pa_cons (pv 8) pa_nil))))) pe_int (fun _ _ => rfl)) (pa_cons (pv 9) pa_nil))))) (pss_one (ps_ret pe_bl)) pss_nil)
      (pss_one (ps_set (i := 2) scBg.nd rfl (Or.inl rfl) (pe_ifExp (pt_cmpR op_eq (pv 4) pe_str (nomark _)) (pe_ix (r := rIxT K) ix_tup (pv 10) pe_int (fun _ _ => rfl)) (pv 10)))))))))
      (pss_one (ps_if (PW.pt (pw_and (pt_not (pt_val (pv 5))) (pw_and1 (pt_not (pt_val (pe_call (ok_law_refused T) (hr.mono (by decide)) (by rfl) T.g_law_refused (T.F_law_refused).kp T.b_law_refused .nil pass0 (pa_cons (pe_ix (r := rIxT K) ix_tup (pe_call (ok_law_done T) (hr.mono (by decide)) (by rfl) T.g_law_done (T.F_law_done).kp T.b_law_done .nil pass0 (pa_cons pe_str (pa_cons (pv 2) (pa_cons (pv 7) (pa_cons pe_int pa_nil))))) pe_int (fun _ _ => rfl)) (pa_cons (pe_tup (pa_cons pe_str (pa_cons (pe_ix (r := rIxT K) ix_tup (pv 7) pe_int (fun _ _ => rfl)) pa_nil))) pa_nil)))))))) (pss_one (ps_ret pe_bl)) pss_nil)))))))))))
      (pss_one (ps_ret pe_bl)))), ?_⟩
    refine ⟨(show 0 ≤ sizeLine by decide), fun B0 nB0 => ⟨(show 0 ≤ sizeLine by decide), fun T0 nT0 => ⟨_, _, rfl, ?_⟩⟩⟩
    have sB0 := new_same (o := .lst []) nB0
    have sT0 := new_same (o := .tup []) nT0
    have hB0d := hD.ne nB0
    refine ⟨_, rfl, d, 19, n + 19999, rfl, by decide, by decide, (hD.same sB0).same sT0, fun x0 H1 a1 a2 f1 D1 => ⟨_, _, rfl, rfl, 12 + x0, rfl, by omega, by omega, ?_⟩⟩
    have f01 := (Frm.of_same (d := d) (sB0.trans sT0)).trans f1
    have bags1 : Bags K H1 B0 T0 [] := ⟨⟨[], [], f1 B0 _ hB0d (sT0 _ _ upd_same), by
      obtain ⟨xd, hxd⟩ := ((hD.same sB0).same sT0).lst
      exact (f1.tf hxd).sq (SqT.of upd_same), .nil, .nil⟩, fun i h => nomatch h⟩
    refine for_range (lo := 0) (n := (12 + x0).toNat) (fun i σ H' => ∃ (v3 v4 v5 v6 v7 v8 v9 v10 v11 v12 : Option V) (B TT : Addr) (its : List It), σ = [some (.ref d), some (.ref B), some (.ref TT), v3, v4, v5, v6, v7, v8, v9, v10, v11, v12] ∧ Bags K H' B TT its ∧ its.length ≤ i ∧ B ≠ d ∧ Frm d H H' ∧ Dk H' d (n + 19999 - 500 * i))
      ⟨_, _, _, _, _, _, _, _, _, _, B0, T0, [], rfl, bags1, Nat.le_refl _, hB0d, f01, D1⟩ (fun i σ H2 hi h => ?_) (fun σ H2 h => ?_)
    · obtain ⟨v3, v4, v5, v6, v7, v8, v9, v10, v11, v12, B, TT, its, rfl, bg, hil, hBd, fr, DD⟩ := h
      have hi30 : i < 31 := by omega
      obtain ⟨xd2, hxd2⟩ := DD.lst
      have bgF : ∀ {Hk : Hp}, Frm d H2 Hk → Bags K Hk B TT its := fun f => bg.frm f hxd2 hBd
      refine ⟨(show 5 ≤ sizeLine by decide), fun p np => ⟨_, rfl, d, 5, n + 19998 - 500 * i, rfl, by decide, by decide, (DD.same (new_same np)).le (by omega), fun x1 H3 b1 b2 f3 D3 => ?_⟩⟩
      have hpd := DD.ne np
      obtain ⟨wd, hwd, hat⟩ := at_mem V.str ["put", "put", "put", "taken", "doubled"] b1 (by simpa using b2)
      refine ⟨p, _, _, _, rfl, rfl, SqL.of (f3 p _ hpd upd_same), hat, ?_⟩
      have F3 := (Frm.of_new (d := d) np).trans f3
      refine ⟨_, rfl, d, 6, n + 19997 - 500 * i, rfl, by decide, by decide, D3.le (by omega), fun x2 H4 b3 b4 f4 D4 => ⟨_, _, rfl, rfl, ?_⟩⟩
      obtain ⟨g, hg⟩ : ∃ g, g = decide (0 < x2) := ⟨_, rfl⟩
      have F4 := F3.trans f4
      dsimp only
      refine seq_cut (fun σ H5 => ∃ to : Int, σ = [some (.ref d), some (.ref B), some (.ref TT), some (.int (0 + (i : Int))), some (.str wd), some (.bl g), some (.int to), v7, v8, v9, v10, v11, v12] ∧ sm to ∧ Frm d H2 H5 ∧ Dk H5 d (n + 19990 - 500 * i)) (fun σ H5 h => ?_) (fun R hR => ?_)
      rotate_left
      · refine ⟨_, rfl, d, 8, n + 19996 - 500 * i, rfl, by decide, by decide, D4.le (by omega), fun x3 H5 b5 b6 f5 D5 => ⟨by rfl, _, rfl, ite2 (fun _ => ?_) (fun _ => ?_)⟩⟩
        · refine ⟨_, rfl, _, rfl, d, 9, n + 19995 - 500 * i, rfl, by decide, by decide, D5.le (by omega), fun x4 H6 b7 b8 f6 D6 => ⟨_, _, rfl, rfl, ?_⟩⟩
          exact hR _ _ ⟨-1 - x4, by rw [hg]; rfl, by unfold sm; omega, (F4.trans f5).trans f6, D6.le (by omega)⟩
        · refine ⟨_, rfl, d, 6, n + 19995 - 500 * i, rfl, by decide, by decide, D5.le (by omega), fun x4 H6 b7 b8 f6 D6 => ?_⟩
          exact hR _ _ ⟨x4, by rw [hg]; rfl, by unfold sm; omega, (F4.trans f5).trans f6, D6.le (by omega)⟩
      obtain ⟨to, rfl, hto, F5, D5⟩ := h
      refine seq_cut (fun σ H6 => ∃ (tp : Addr) (v : V) (l : Le), σ = [some (.ref d), some (.ref B), some (.ref TT), some (.int (0 + (i : Int))), some (.str wd), some (.bl g), some (.int to), some (.ref tp), v8, v9, v10, v11, v12] ∧ SqT K H6 tp [.int to, v] ∧ LeH K H6 v l ∧ l.sm ∧ l.is = g ∧ Frm d H2 H6 ∧ Dk H6 d (n + 19700 - 500 * i)) (fun σ H6 h => ?_) (fun R hR => ?_)
      rotate_left
      · refine ⟨_, rfl, _, rfl, g, rfl, ?_⟩
        cases g with
        | true =>
          refine iteT ⟨_, rfl, d, n + 19800 - 500 * i, rfl, D5.le (by omega), fun u l H6 f6 D6 hl his hsm _ _ _ => ⟨(show 2 ≤ sizeLine by decide), fun tp ntp => ?_⟩⟩
          have st := new_same (o := .tup [.int to, u]) ntp
          exact hR _ _ ⟨tp, u, l, rfl, SqT.of upd_same, hl.tf (same_tf st), hsm, his, (F5.trans f6).trans (Frm.of_same st), (D6.same st).le (by omega)⟩
        | false =>
          refine iteF ⟨_, rfl, d, n + 19750 - 500 * i, rfl, D5.le (by omega), fun u l H6 f6 D6 hl his hsm => ⟨(show 2 ≤ sizeLine by decide), fun tp ntp => ?_⟩⟩
          have st := new_same (o := .tup [.int to, u]) ntp
          exact hR _ _ ⟨tp, u, l, rfl, SqT.of upd_same, hl.tf (same_tf st), hsm, his, (F5.trans f6).trans (Frm.of_same st), (D6.same st).le (by omega)⟩
      obtain ⟨tp, v, l, rfl, htp, hl, hsm, his, F6, D6⟩ := h
      obtain ⟨⟨ws, us, hB, hT, dws, dus⟩, hok⟩ := bgF F6
      have hwl := dpa_len dws
      have hul := dpa_len dus
      rw [List.length_map] at hwl hul
      obtain ⟨xd6, hxd6⟩ := D6.lst
      refine ⟨_, rfl, _, rfl, B, _, rfl, .inl (SqL.of hB), _, _, rfl, rfl, d, _, n + 19699 - 500 * i, rfl, by omega, by omega, D6.le (by omega), fun y1 H7 c1 c2 f7 D7 => ?_⟩
      have hB7 := f7 B _ hBd hB
      refine ⟨_, rfl, _, rfl, B, _, rfl, .inl (SqL.of hB7), _, rfl, d, 99, n + 19698 - 500 * i, rfl, by decide, by decide, D7.le (by omega), fun y2 H8 c3 c4 f8 D8 => ⟨_, _, rfl, rfl, (show 5 ≤ sizeLine by decide), fun p2 np2 => ⟨_, rfl, d, 5, n + 19697 - 500 * i, rfl, by decide, by decide, (D8.same (new_same np2)).le (by omega), fun y3 H9 c5 c6 f9 D9 => ?_⟩⟩⟩
      have hp2d := D8.ne np2
      obtain ⟨k, hk, hat2⟩ := at_mem V.int [y1, -1, (ws.length : Int) + y2, 0, 1] c5 (by simpa using c6)
      have hk0 : sm k := by
        simp at hk
        unfold sm
        omega
      refine ⟨p2, _, _, _, rfl, rfl, SqL.of (f9 p2 _ hp2d upd_same), hat2, ?_⟩
      have F69 := (f7.trans f8).trans ((Frm.of_new np2).trans f9)
      have t69 := F69.tf hxd6
      have F9 := F6.trans F69
      replace htp := t69.sq htp
      replace hl := hl.tf t69
      replace hB := F69 B _ hBd hB
      replace hT := t69.sq hT
      replace dws := dpa_nl t69 _ _ (nl_its _) dws
      replace dus := dpa_nl t69 _ _ (nl_its _) dus
      clear hat hat2 bg hxd2 np np2 nB0 nT0 sB0 sT0
      dsimp only
      have hwd3 : wd = "put" ∨ wd = "taken" ∨ wd = "doubled" := by
        simp only [List.mem_cons, List.not_mem_nil, or_false] at hwd
        rcases hwd with h | h | h | h | h
        · exact .inl h
        · exact .inl h
        · exact .inl h
        · exact .inr (.inl h)
        · exact .inr (.inr h)
      have hit : ItOk (to, l) := ⟨by have := hsm.row.1; show l.row.length ≤ 40; omega, by have := hsm.heard.1; show l.heard.length ≤ 40; omega⟩
      have hits : its.length ≤ 31 := by omega
      refine seq_cut2 (fun σ H' => ∃ x9 x10 x11, σ = [some (.ref d), some (.ref B), some (.ref TT), some (.int (0 + (i : Int))), some (.str wd), some (.bl g), some (.int to), some (.ref tp), some (.int k), x9, x10, x11, v12] ∧ Out K H' TT tp its wd g to k v x9 x10 x11 ∧ Same H9 H') (fun σ H' h => ?_) (fun R hR => ?_)
      · obtain ⟨x9, x10, x11, rfl, out, s9⟩ := h
        have t9 := same_tf s9
        have htp9 := t9.sq htp
        have hl9 := hl.tf t9
        refine seq_cut (fun σ H2 => ∃ (B' TT' : Addr) (its' : List It) (x9 x10 x11 x12 : Option V), σ = [some (.ref d), some (.ref B'), some (.ref TT'), some (.int (0 + (i : Int))), some (.str wd), some (.bl g), some (.int to), some (.ref tp), some (.int k), x9, x10, x11, x12] ∧ Bags K H2 B' TT' its' ∧ its'.length ≤ its.length + 1 ∧ B' ≠ d ∧ Same H9 H2) (fun σ H2 h => ?_) (fun R hR => ?_)
        · obtain ⟨B', TT', its', y9, y10, y11, y12, rfl, bg', hl', hBd', s2⟩ := h
          have fin : ∀ H3, Same H2 H3 → ∃ (v3 v4 v5 v6 v7 v8 v9 v10 v11 v12 : Option V) (B TT : Addr) (its : List It), [some (V.ref d), some (V.ref B'), some (V.ref TT'), some (V.int (0 + (i : Int))), some (V.str wd), some (V.bl g), some (V.int to), some (V.ref tp), some (V.int k), y9, y10, y11, y12] = [some (.ref d), some (.ref B), some (.ref TT), v3, v4, v5, v6, v7, v8, v9, v10, v11, v12] ∧ Bags K H3 B TT its ∧ its.length ≤ i + 1 ∧ B ≠ d ∧ Frm d H H3 ∧ Dk H3 d (n + 19999 - 500 * (i + 1)) := fun H3 s3 => by
            have s93 := s2.trans s3
            refine ⟨_, _, _, _, _, _, _, _, _, _, B', TT', its', rfl, ?_, by omega, hBd', (fr.trans F9).trans (Frm.of_same s93), (D9.same s93).le (by omega)⟩
            obtain ⟨xd, hxd⟩ := (D9.same s2).lst
            exact bg'.frm (Frm.of_same s3) hxd hBd'
          cases g with
          | true => exact ⟨_, rfl, true, rfl, iteF (fin H2 (Same.refl H2))⟩
          | false =>
            have t2 := same_tf s2
            refine ⟨_, rfl, false, rfl, iteT ?_⟩
            refine ⟨_, rfl, _, rfl, rfl, (fun _ _ => False), (fun x z => x = "InvalidLetter" ∧ z = v), .size (hl.tf t2) hsm (t2.sq htp) (fun e => by rw [his] at e; cases e) (fun _ => ⟨rfl, rfl⟩), fun _ _ _ _ h => h, fun t fu H3 s3 ho sq3 => ho.elim, fun t ae x z H3 s3 he hE sq3 => ?_⟩
            obtain ⟨rfl, rfl⟩ := he
            have t3 := same_tf (s2.trans s3)
            refine ⟨t, _, _, _, rfl, rfl, sq3, atI_nat (j := 1) rfl, _, rfl, tp, _, _, _, rfl, rfl, t3.sq htp, atI_nat (j := 1) rfl, (show 2 ≤ sizeLine by decide), fun q nq => ?_⟩
            have sq' := new_same (o := .tup [.str "letter", z]) nq
            have dl := dp_le (hl.tf (same_tf ((s2.trans s3).trans sq')))
            exact ⟨ae, q, "InvalidLetter", "letter", z, z, lpy l, rfl, by decide +kernel, hE.on sq', SqT.of upd_same, dl, dl, nl_le l, al_up 2 _ (al_le (by have := hsm.row.1; omega) (by have := hsm.heard.1; omega)), fun H4 s4 => ⟨true, rfl, iteF (fin H4 ((s3.trans sq').trans s4))⟩⟩
        · cases out with
          | @no ae x wx z hx hE hp hn =>
            refine ⟨_, rfl, rfl, _, rfl, ite2 (fun _ => ?_) (fun z => absurd (by decide +kernel) z)⟩
            have fin : ∀ {y12 : Option V} {H3 : Hp}, Same H' H3 → R [some (.ref d), some (.ref B), some (.ref TT), some (.int (0 + (i : Int))), some (.str wd), some (.bl g), some (.int to), some (.ref tp), some (.int k), some .non, some .non, some (.ref ae), y12] H3 := fun {y12 H3} s3 =>
              hR _ _ ⟨B, TT, its, _, _, _, _, rfl, ⟨⟨ws, us, (s9.trans s3) _ _ hB, (same_tf (s9.trans s3)).sq hT, dpa_nl (same_tf (s9.trans s3)) _ _ (nl_its _) dws, dpa_nl (same_tf (s9.trans s3)) _ _ (nl_its _) dus⟩, hok⟩, by omega, hBd, s9.trans s3⟩
            have ref : ∀ {rt0 : V → Hp → Prop} {b0 c0' : L2.St → Hp → Prop} {y12 : V} {q : Addr} {H3 : Hp}, Same H' H3 → ((wd = "put" ∧ ∃ zz dd, y12 = .ref q ∧ SqT K H3 q [.str wx, zz] ∧ Dp K H3 z dd ∧ Dp K H3 zz dd ∧ NL dd ∧ AlOk 3 dd) ∨ wd ≠ "put") →
                (tIfS (tNot (tB (tCall (spRf K) [] E0 (tCons (tVar 11) (tCons (tIf (tTest (tOp rEq (tVar 4) (tC (.str "put")))) (tVar 12) (tTup (tCons (tC (.str "place")) (tCons (tVar 8) tNil)))) tNil))))) (tRet (tC (.bl false))) tNext) { nx := R, rt := rt0, bk := b0, ct := c0' } [some (.ref d), some (.ref B), some (.ref TT), some (.int (0 + (i : Int))), some (.str wd), some (.bl g), some (.int to), some (.ref tp), some (.int k), some .non, some .non, some (.ref ae), some y12] H3 := fun {rt0 b0 c0' y12 q H3} s3 hc => by
              refine ⟨_, rfl, _, rfl, by rfl, _, rfl, ite2 (fun e => ?_) (fun e => ?_)⟩
              · have e2 : wd = "put" := by
                  have := of_decide_eq_true e
                  injection this
                rcases hc with ⟨_, zz, dd, rfl, sq, d1, d2, nl, al⟩ | hc
                · exact ⟨_, rfl, ae, q, x, wx, z, zz, dd, rfl, hx, hE.on s3, sq, d1, d2, nl, al, fun H4 s4 => ⟨true, rfl, iteF (fin (s3.trans s4))⟩⟩
                · exact absurd e2 hc
              · have e2 : wd ≠ "put" := fun w => e (decide_eq_true (by rw [w]))
                obtain ⟨rfl, rfl⟩ := hn e2
                refine ⟨_, rfl, (show 2 ≤ sizeLine by decide), fun q2 nq2 => ?_⟩
                have s4 := new_same (o := .tup [.str "place", .int k]) nq2
                exact ⟨ae, q2, x, "place", .int k, .int k, .int k, rfl, hx, hE.on (s3.trans s4), SqT.of upd_same, .int _, .int _, trivial, trivial, fun H5 s5 => ⟨true, rfl, iteF (fin ((s3.trans s4).trans s5))⟩⟩
            refine ⟨_, rfl, g, rfl, ?_⟩
            cases g with
            | true =>
              refine iteT ⟨_, rfl, (show 2 ≤ sizeLine by decide), fun q nq => ?_⟩
              refine ref (q := q) (new_same nq) ?_
              by_cases e : wd = "put"
              · rcases hp e with ⟨_, rfl, rfl⟩ | ⟨e1, _⟩
                · exact .inl ⟨e, .int to, .int to, rfl, SqT.of upd_same, .int _, .int _, trivial, trivial⟩
                · cases e1
              · exact .inr e
            | false =>
              refine iteF ⟨_, rfl, tp, _, _, _, rfl, rfl, htp9, atI_nat (j := 1) rfl, (show 2 ≤ sizeLine by decide), fun q nq => ?_⟩
              have sq' := new_same (o := .tup [.str "letter", v]) nq
              refine ref (q := q) sq' ?_
              by_cases e : wd = "put"
              · rcases hp e with ⟨e1, _⟩ | ⟨_, rfl, rfl⟩
                · cases e1
                · have dl := dp_le (hl9.tf (same_tf sq'))
                  exact .inl ⟨e, z, lpy l, rfl, SqT.of upd_same, dl, dl, nl_le l, al_up 2 _ (al_le (by have := hsm.row.1; omega) (by have := hsm.heard.1; omega))⟩
              · exact .inr e
          | @yes du fu tk it its' ht h1 h2 hi' hl' ho c =>
            have hal := al_dd tk hi' (by omega) ho
            obtain ⟨qd, rfl⟩ : ∃ q, du = .ref q := h1.ref
            refine ⟨_, rfl, rfl, _, rfl, ite2 (fun z => nomatch (of_decide_eq_true z)) (fun _ => ?_)⟩
            refine ⟨_, rfl, rfl, _, rfl, iteF ⟨_, rfl, _, rfl, fu, .ref qd, ddOf tk it its', rfl, h2.dp, h1.dp, hal, fun H6 s6 => ⟨true, rfl, iteF ?_⟩⟩⟩
            have s96 := s9.trans s6
            have h16 := h1.on s6
            have h26 := h2.on s6
            have D6' := D9.same s96
            cases tk with
            | false =>
              have hne : wd ≠ "taken" := fun e => by have := ht.mpr e; cases this
              obtain ⟨q1, us1, e1, sq1, du1⟩ := id h16
              cases e1
              refine ⟨_, rfl, by rfl, _, rfl, ite2 (fun e => absurd (by have := of_decide_eq_true e; injection this) hne) (fun _ => ⟨_, rfl, qd, us1, rfl, .inr sq1, fun B' nB' => ?_⟩)⟩
              have sB := new_same (o := .lst us1) nB'
              have hB'd := D6'.ne nB'
              refine ⟨_, rfl, _, rfl, _, rfl, _, rfl, rfl, _, _, c.on (s6.trans sB), fun u H1 H2 s1 h => h.on s1, fun t fu2 H8 s8 ho2 sq8 => ?_, fun t ae x z H2 _ e => e.elim⟩
              refine ⟨t, _, _, _, rfl, rfl, sq8, atI_nat (j := 0) rfl, _, rfl, fu2, .ref qd, ddOf false it its', rfl, ho2.dp, (h16.on (sB.trans s8)).dp, hal, fun H7' s7' => ⟨true, rfl, iteF ?_⟩⟩
              have sB7 := (sB.trans s8).trans s7'
              obtain ⟨q2, us2, e2, sq2, du2⟩ := h26.on sB7
              cases e2
              refine ⟨_, rfl, by rfl, _, rfl, ite2 (fun e => absurd (by have := of_decide_eq_true e; injection this) hne) (fun _ => ⟨_, rfl, ?_⟩)⟩
              exact hR _ _ ⟨B', q2, its', _, _, _, _, rfl, ⟨⟨us1, us2, (s8.trans s7') _ _ upd_same, sq2, dpa_nl (same_tf sB7) _ _ (nl_its _) du1, du2⟩, ho⟩, hl', hB'd, s96.trans sB7⟩
            | true =>
              have he : wd = "taken" := ht.mp rfl
              subst he
              obtain ⟨q1, r1, x1', us1, e1, sq1, dx1, sr1, du1⟩ := id h16
              cases e1
              refine ⟨_, rfl, by rfl, _, rfl, ite2 (fun _ => ⟨_, rfl, qd, _, _, _, rfl, rfl, sq1, atI_nat (j := 1) rfl, r1, us1, rfl, .inr sr1, fun B' nB' => ?_⟩) (fun z => absurd (by decide +kernel) z)⟩
              have sB := new_same (o := .lst us1) nB'
              have hB'd := D6'.ne nB'
              refine ⟨_, rfl, _, rfl, _, rfl, _, rfl, rfl, _, _, c.on (s6.trans sB), fun u H1 H2 s1 h => h.on s1, fun t fu2 H8 s8 ho2 sq8 => ?_, fun t ae x z H2 _ e => e.elim⟩
              refine ⟨t, _, _, _, rfl, rfl, sq8, atI_nat (j := 0) rfl, _, rfl, fu2, .ref qd, ddOf true it its', rfl, ho2.dp, (h16.on (sB.trans s8)).dp, hal, fun H7' s7' => ⟨true, rfl, iteF ?_⟩⟩
              have sB7 := (sB.trans s8).trans s7'
              obtain ⟨q2, r2, x2', us2, e2, sq2, dx2, sr2, du2⟩ := h26.on sB7
              cases e2
              refine ⟨_, rfl, by rfl, _, rfl, ite2 (fun _ => ⟨_, rfl, q2, _, _, _, rfl, rfl, sq2, atI_nat (j := 1) rfl, ?_⟩) (fun z => absurd (by decide +kernel) z)⟩
              exact hR _ _ ⟨B', r2, its', _, _, _, _, rfl, ⟨⟨us1, us2, (s8.trans s7') _ _ upd_same, sr2, dpa_nl (same_tf sB7) _ _ (nl_its _) du1, du2⟩, ho⟩, hl', hB'd, s96.trans sB7⟩
      · refine ⟨_, rfl, _, rfl, _, rfl, _, rfl, andV rfl rfl ?_⟩
        rcases hwd3 with rfl | rfl | rfl
        · refine ⟨rfl, .put hB (by omega) (fun hG u H' s q => ?_) (fun hG H' s => ?_)⟩
          · obtain ⟨hg1, hg2⟩ := and2 hG
            have hto0 := of_decide_eq_true hg2
            have hisT : l.is = true := by rw [his]; exact hg1
            have mk : ∀ {Hk : Hp}, Same H9 Hk → DnC K Hk (OkR K false (to, l) (its ++ [(to, l)])) (fun _ _ => False) [.str "put", .ref TT, .ref tp, .int k] := fun {Hk} sk =>
              .put ((same_tf sk).sq hT) (by omega) hto (hl.tf (same_tf sk)) hsm ((same_tf sk).sq htp) (fun _ _ u' p' H2 s2 q1 q2 => ⟨u', _, rfl, q2, by
                rw [List.map_append]
                exact dpa_app (dpa_nl (same_tf (sk.trans s2)) _ _ (nl_its _) dus) (.cons (it_dp q1 (hl.tf (same_tf (sk.trans s2)))) .nil)⟩) (fun e => by rw [hisT] at e; cases e) (fun _ e => absurd hto0 (by omega))
            refine ⟨_, rfl, _, rfl, _, rfl, _, rfl, rfl, _, _, mk s, fun u H1 H2 s1 h => h.on s1, fun t fu H2 s2 ho sq2 => ?_, fun t ae x z H2 _ e => e.elim⟩
            refine ⟨t, _, rfl, sq2, rfl, _, _, rfl, _, _, rfl, rfl, hR _ _ ⟨_, _, _, rfl, ?_, s.trans s2⟩⟩
            refine .yes false (to, l) (its ++ [(to, l)]) (by decide +kernel) ⟨u, _, rfl, (same_tf s2).sq q, ?_⟩ ho hit (by rw [List.length_append]; exact Nat.le_refl _) (fun j hj => ?_) (mk (s.trans s2))
            · rw [List.map_append]
              exact dpa_app (dpa_nl (same_tf (s.trans s2)) _ _ (nl_its _) dws) (.cons (it_dp ((same_tf (s.trans s2)).sq htp) (hl.tf (same_tf (s.trans s2)))) .nil)
            · rcases List.mem_append.mp hj with hj | hj
              · exact hok j hj
              · rw [List.mem_singleton.mp hj]
                exact hit
          · have hno : l.is = true → to < 0 := fun e => by
              have e2 : g = true := by rw [← his]; exact e
              rw [e2, Bool.true_and] at hG
              have := of_decide_eq_false hG
              omega
            refine ⟨_, rfl, _, rfl, _, rfl, _, rfl, rfl, (fun _ _ => False), (fun x z => (g = true ∧ x = "InvalidHouse" ∧ z = .int to) ∨ (g = false ∧ x = "InvalidLetter" ∧ z = v)), .put ((same_tf s).sq hT) (by omega) hto (hl.tf (same_tf s)) hsm ((same_tf s).sq htp) (fun e e2 => absurd (hno e) (by omega)) (fun e => .inr ⟨by rw [← his]; exact e, rfl, rfl⟩) (fun e _ => .inl ⟨by rw [← his]; exact e, rfl, rfl⟩), fun _ _ _ _ h => h, fun t fu H2 s2 ho sq2 => ho.elim, fun t ae x z H2 s2 he hE sq2 => ?_⟩
            refine ⟨t, _, rfl, sq2, rfl, _, _, rfl, _, _, rfl, rfl, hR _ _ ⟨_, _, _, rfl, ?_, s.trans s2⟩⟩
            rcases he with ⟨h1, rfl, rfl⟩ | ⟨h1, rfl, rfl⟩
            · exact .no (wx := "house") (by decide +kernel) hE (fun _ => .inl ⟨h1, rfl, rfl⟩) (fun e => absurd rfl e)
            · exact .no (wx := "letter") (by decide +kernel) hE (fun _ => .inr ⟨h1, rfl, rfl⟩) (fun e => absurd rfl e)
        · refine ⟨rfl, .taken hB (by omega) (fun n' x e hx u r H' s q1 q2 => ?_) (fun hG H' s => ?_)⟩
          · subst e
            obtain ⟨it, hit', dx⟩ := it_at dws hx
            have hn := (List.getElem?_eq_some_iff.mp hit').1
            have hio := hok it (List.mem_of_getElem? hit')
            have mk : ∀ {Hk : Hp}, Same H9 Hk → DnC K Hk (OkR K true it (its.take n' ++ its.drop (n' + 1))) (fun _ _ => False) [.str "taken", .ref TT, .ref tp, .int (n' : Int)] := fun {Hk} sk =>
              .taken ((same_tf sk).sq hT) (by omega) hk0 (fun m x' e' hx' u' r' H2 s2 z1 z2 => by
                have em : m = n' := by omega
                subst em
                obtain ⟨it2, hit2, dx2⟩ := it_at dus hx'
                rw [hit'] at hit2
                cases hit2
                refine ⟨u', r', x', _, rfl, z1, dp_nl (same_tf (sk.trans s2)) _ _ (nl_it _) dx2, z2, ?_⟩
                rw [← drop_its]
                exact dpa_app (dpa_take _ (dpa_nl (same_tf (sk.trans s2)) _ _ (nl_its _) dus)) (dpa_drop _ (dpa_nl (same_tf (sk.trans s2)) _ _ (nl_its _) dus))) (fun e => e ⟨by omega, by omega⟩)
            refine ⟨_, rfl, _, rfl, _, rfl, _, rfl, rfl, _, _, mk s, fun u H1 H2 s1 h => h.on s1, fun t fu H2 s2 ho sq2 => ?_, fun t ae x z H2 _ e => e.elim⟩
            refine ⟨t, _, rfl, sq2, rfl, _, _, rfl, _, _, rfl, rfl, hR _ _ ⟨_, _, _, rfl, ?_, s.trans s2⟩⟩
            refine .yes true it (its.take n' ++ its.drop (n' + 1)) (by decide +kernel) ⟨u, r, x, _, rfl, (same_tf s2).sq q1, dp_nl (same_tf (s.trans s2)) _ _ (nl_it _) dx, (same_tf s2).sq q2, ?_⟩ ho hio (by rw [List.length_append, List.length_take, List.length_drop]; omega) (fun j hj => ?_) (mk (s.trans s2))
            · rw [← drop_its]
              exact dpa_app (dpa_take _ (dpa_nl (same_tf (s.trans s2)) _ _ (nl_its _) dws)) (dpa_drop _ (dpa_nl (same_tf (s.trans s2)) _ _ (nl_its _) dws))
            · rcases List.mem_append.mp hj with hj | hj
              · exact hok j (List.mem_of_mem_take hj)
              · exact hok j (List.mem_of_mem_drop hj)
          · refine ⟨_, rfl, _, rfl, _, rfl, _, rfl, rfl, (fun _ _ => False), (fun x z => x = "InvalidPlace" ∧ z = .int k), .taken ((same_tf s).sq hT) (by omega) hk0 (fun m x' e' hx' => absurd ⟨by omega, by have := (List.getElem?_eq_some_iff.mp hx').1; omega⟩ hG) (fun _ => ⟨rfl, rfl⟩), fun _ _ _ _ h => h, fun t fu H2 s2 ho sq2 => ho.elim, fun t ae x z H2 s2 he hE sq2 => ?_⟩
            refine ⟨t, _, rfl, sq2, rfl, _, _, rfl, _, _, rfl, rfl, hR _ _ ⟨_, _, _, rfl, ?_, s.trans s2⟩⟩
            obtain ⟨rfl, rfl⟩ := he
            exact .no (wx := "place") (by decide +kernel) hE (fun e => absurd e (by decide +kernel)) (fun _ => ⟨rfl, rfl⟩)
        · refine ⟨rfl, .doubled hB (by omega) (fun n' x e hx u H' s q1 => ?_) (fun hG H' s => ?_)⟩
          · subst e
            obtain ⟨it, hit', dx⟩ := it_at dws hx
            have hn := (List.getElem?_eq_some_iff.mp hit').1
            have hio := hok it (List.mem_of_getElem? hit')
            have mk : ∀ {Hk : Hp}, Same H9 Hk → DnC K Hk (OkR K false it (its ++ [it])) (fun _ _ => False) [.str "doubled", .ref TT, .ref tp, .int (n' : Int)] := fun {Hk} sk =>
              .doubled ((same_tf sk).sq hT) (by omega) hk0 (fun m x' e' hx' u' H2 s2 z1 => by
                have em : m = n' := by omega
                subst em
                obtain ⟨it2, hit2, dx2⟩ := it_at dus hx'
                rw [hit'] at hit2
                cases hit2
                refine ⟨u', _, rfl, z1, ?_⟩
                rw [List.map_append]
                exact dpa_app (dpa_nl (same_tf (sk.trans s2)) _ _ (nl_its _) dus) (.cons (dp_nl (same_tf (sk.trans s2)) _ _ (nl_it _) dx2) .nil)) (fun e => e ⟨by omega, by omega⟩)
            refine ⟨_, rfl, _, rfl, _, rfl, _, rfl, rfl, _, _, mk s, fun u H1 H2 s1 h => h.on s1, fun t fu H2 s2 ho sq2 => ?_, fun t ae x z H2 _ e => e.elim⟩
            refine ⟨t, _, rfl, sq2, rfl, _, _, rfl, _, _, rfl, rfl, hR _ _ ⟨_, _, _, rfl, ?_, s.trans s2⟩⟩
            refine .yes false it (its ++ [it]) (by decide +kernel) ⟨u, _, rfl, (same_tf s2).sq q1, ?_⟩ ho hio (by rw [List.length_append]; exact Nat.le_refl _) (fun j hj => ?_) (mk (s.trans s2))
            · rw [List.map_append]
              exact dpa_app (dpa_nl (same_tf (s.trans s2)) _ _ (nl_its _) dws) (.cons (dp_nl (same_tf (s.trans s2)) _ _ (nl_it _) dx) .nil)
            · rcases List.mem_append.mp hj with hj | hj
              · exact hok j hj
              · rw [List.mem_singleton.mp hj]
                exact hio
          · refine ⟨_, rfl, _, rfl, _, rfl, _, rfl, rfl, (fun _ _ => False), (fun x z => x = "InvalidPlace" ∧ z = .int k), .doubled ((same_tf s).sq hT) (by omega) hk0 (fun m x' e' hx' => absurd ⟨by omega, by have := (List.getElem?_eq_some_iff.mp hx').1; omega⟩ hG) (fun _ => ⟨rfl, rfl⟩), fun _ _ _ _ h => h, fun t fu H2 s2 ho sq2 => ho.elim, fun t ae x z H2 s2 he hE sq2 => ?_⟩
            refine ⟨t, _, rfl, sq2, rfl, _, _, rfl, _, _, rfl, rfl, hR _ _ ⟨_, _, _, rfl, ?_, s.trans s2⟩⟩
            obtain ⟨rfl, rfl⟩ := he
            exact .no (wx := "place") (by decide +kernel) hE (fun e => absurd e (by decide +kernel)) (fun _ => ⟨rfl, rfl⟩)
    · obtain ⟨v3, v4, v5, v6, v7, v8, v9, v10, v11, v12, B, TT, its, rfl, bg, hil, hBd, fr, DD⟩ := h
      exact kk H2 fr (DD.le (by omega))
end
end K51
set_option maxRecDepth 100000
set_option maxHeartbeats 4000000
/-! Letters asked with wrong things. -/
namespace K51
open PySem PySem.Spec PyProof.Rows L2 KF KD
theorem dep_ints : ∀ r : List Int, PyData.depthAll (r.map .int) ≤ 1
  | [] => by simp [PyData.depthAll]
  | a :: r => by
    rw [List.map_cons, PyData.depthAll]
    have := dep_ints r
    simp [PyData.depth]
    omega
theorem eqv_intsL : ∀ r s : List Int, PyData.eqvAll (r.map .int) (s.map .int) = decide (r = s)
  | [], [] => by simp [PyData.eqvAll]
  | [], _ :: _ => by simp [PyData.eqvAll]
  | _ :: _, [] => by simp [PyData.eqvAll]
  | a :: r, b :: s => by
    rw [List.map_cons, List.map_cons, PyData.eqvAll, eqv_intsL r s]
    by_cases h1 : a = b
    · by_cases h2 : r = s
      · simp [h1, h2, PyData.eqv]
      · simp [h1, h2, PyData.eqv]
    · simp [h1, PyData.eqv]
theorem shaped_intsL (r : List Int) : SeqAt.shaped (.list (r.map .int)) = true := by
  unfold SeqAt.shaped
  rw [Bool.and_eq_true]
  constructor
  · simp only [PyData.canLay0, can_ints]
  · have := dep_ints r
    refine decide_eq_true ?_
    rw [PyData.depth]
    omega
/-- which of three are wrong, and what is due of them -/
def sel (bs : List Int) (dq : List Addr) (i : Nat) : List V := ((List.range i).filter fun j => decide (bs.getD j 0 = 1)).map fun j => V.ref (dq.getD j 0)
theorem sel_next {bs : List Int} {dq : List Addr} {i : Nat} : sel bs dq (i + 1) = sel bs dq i ++ (if bs.getD i 0 = 1 then [V.ref (dq.getD i 0)] else []) := by
  unfold sel
  rw [List.range_succ, List.filter_append, List.map_append]
  congr 1
  by_cases h : bs.getD i 0 = 1
  · rw [if_pos h, List.filter_cons, if_pos (decide_eq_true h)]
    rfl
  · rw [if_neg h, List.filter_cons, if_neg (by rw [decide_eq_false h]; decide)]
    rfl
theorem int_at {row : List Int} {b : Nat} (h : b < row.length) : (row.map V.int)[b]? = some (.int (row.getD b 0)) := by
  rw [List.getElem?_map, List.getD_eq_getElem?_getD, List.getElem?_eq_getElem h]
  rfl
theorem ref_at {row : List Addr} {b : Nat} (h : b < row.length) : (row.map V.ref)[b]? = some (.ref (row.getD b 0)) := by
  rw [List.getElem?_map, List.getD_eq_getElem?_getD, List.getElem?_eq_getElem h]
  rfl
theorem ok_all {k : Kn} (ok : k.ok) : k.row.all (mkOk k.ends) = true := List.all_eq_true.mpr fun q hq => by
  have h := ok.rng q hq
  unfold mkOk
  rw [decide_eq_true h.1, decide_eq_true h.2.2.1, decide_eq_true h.2.2.2]
  cases he : k.ends with
  | none => rfl
  | some g =>
    have := (ok.ends g he).2.2 q hq
    show (true && (true && true && decide (q.1 < g))) = true
    rw [decide_eq_true this]
    rfl
theorem sel_len {bs : List Int} {dq : List Addr} {i : Nat} : (sel bs dq i).length ≤ i := by
  unfold sel
  rw [List.length_map]
  have := List.length_filter_le (fun j => decide (bs.getD j 0 = 1)) (List.range i)
  rw [List.length_range] at this
  exact this
theorem al_kn {k : Kn} (h : k.row.length ≤ 40) : AlOk 3 (kpy k) := by
  refine ⟨(show 2 ≤ 1100 by decide), ⟨nl_row _, nl_oint _, trivial⟩, fun e he => ?_⟩
  rcases List.mem_cons.mp he with rfl | he
  · refine ⟨by rw [List.length_map]; omega, nl_row _, fun e he => ?_⟩
    obtain ⟨q, _, rfl⟩ := List.mem_map.mp he
    refine ⟨(show 2 ≤ 1100 by decide), ⟨trivial, trivial, trivial⟩, fun e he => ?_⟩
    simp only [List.mem_cons, List.not_mem_nil, or_false] at he
    rcases he with rfl | rfl <;> trivial
  · rw [List.mem_singleton.mp he]
    cases k.ends <;> trivial
section
variable {P : Program} {w : World} {K : PySem.W.Frag} {mg : Str → Option Value} {base : Heap}
def spLr : Sp := fun vs H Q _ => ∃ (d : Addr) (n : Nat), vs = [.ref d] ∧ Dk H d (n + 100) ∧ ∀ H', Frm d H H' → Dk H' d n → Q (.bl true) H'
theorem scLr : FnScope ["deck", "row", "bad", "house", "known", "first", "found", "caught", "dues", "tick", "at"] ["deck"] (defScope s_law_letters_right) := ⟨rfl, rfl, rfl, by decide +kernel, rfl, by decide +kernel, by decide +kernel⟩
theorem ok_law_letters_right (T : Txt K w mg) : FnOk P w K mg base CX0 8 (He.fAd K ("_law_letters_right", none)) (fdAt K (He.fAd K ("_law_letters_right", none))) ["deck"] spLr := by
  refine T.F_law_letters_right.ok scLr (fun vs H Q E h => ?_) (fun cdv A outer s H vs Q E hr h => ?_)
  · obtain ⟨d, n, rfl, _⟩ := h
    rfl
  · obtain ⟨d, n, rfl, hD, kk⟩ := h
    refine ⟨_, PSs.nox (pss_cons (ps_set (i := 1) scLr.nd rfl (Or.inl rfl) (pe_callTy call_tuple_of (by rfl) T.n_tuple PyProof.Rows.Boot.«tuple» (pa_cons (pe_lc (own := [("tick", 9)]) (g := gName 9) (tt := tYes) (by rfl) scLr.nd (pi_range1 (by rfl) T.n_range (pa_cons (pe_call (ok_law_draw T) (hr.mono (by decide)) (by rfl) T.g_law_draw (T.F_law_draw).kp T.b_law_draw .nil pass0 (pa_cons (pv 0) (pa_cons pe_int pa_nil))) pa_nil)) (blkOk_by (own := [("tick", 9)]) (N := ["deck", "row", "bad", "house", "known", "first", "found", "caught", "dues", "tick", "at"]) (sc := defScope s_law_letters_right) (by decide +kernel)) (fun _ _ _ _ _ => pg_name (i := 9) scLr.nd rfl (Or.inl rfl)) (fun _ _ _ _ _ => pts_nil) (fun _ _ _ _ _ => (pe_tup (pa_cons (pv 9) (pa_cons (pe_call (ok_law_draw T) (hr.mono (by decide)) (by rfl) T.g_law_draw (T.F_law_draw).kp T.b_law_draw .nil pass0 (pa_cons (pv 0) (pa_cons pe_int pa_nil))) pa_nil))))) pa_nil)))
      (pss_cons (ps_set (i := 2) scLr.nd rfl (Or.inr rfl) (pe_lst (pa_cons (pe_call (ok_law_draw T) (hr.mono (by decide)) (by rfl) T.g_law_draw (T.F_law_draw).kp T.b_law_draw .nil pass0 (pa_cons (pv 0) (pa_cons pe_int pa_nil))) (pa_cons (pe_call (ok_law_draw T) (hr.mono (by decide)) (by rfl) T.g_law_draw (T.F_law_draw).kp T.b_law_draw .nil pass0 (pa_cons (pv 0) (pa_cons pe_int pa_nil))) (pa_cons (pe_call (ok_law_draw T) (hr.mono (by decide)) (by rfl) T.g_law_draw (T.F_law_draw).kp T.b_law_draw .nil pass0 (pa_cons (pv 0) (pa_cons pe_int pa_nil))) pa_nil)))))
      (pss_cons (ps_set (i := 3) scLr.nd rfl (Or.inl rfl) (pe_ifExp (pt_cmpR op_eq (pe_ix (r := rIxL K) ix_list (pv 2) pe_int (fun _ _ => rfl)) pe_int (nomark _)) (pe_op op_sub (pe_un un_neg pe_int) (pe_call (ok_law_draw T) (hr.mono (by decide)) (by rfl) T.g_law_draw (T.F_law_draw).kp T.b_law_draw .nil pass0 (pa_cons (pv 0) (pa_cons pe_int pa_nil)))) (pe_call (ok_law_draw T) (hr.mono (by decide)) (by rfl) T.g_law_draw (T.F_law_draw).kp T.b_law_draw .nil pass0 (pa_cons (pv 0) (pa_cons pe_int pa_nil)))))
      (pss_cons (ps_par (i := 4) (j := 5) (by rfl) scLr.nd rfl rfl (by decide) rfl rfl (pa_cons (pe_tup (pa_cons (pv 1) (pa_cons pe_non pa_nil))) (pa_cons (pe_ifExp (pt_cmpR op_eq (pe_ix (r := rIxL K) ix_list (pv 2) pe_int (fun _ _ => rfl)) pe_int (nomark _)) (pe_op op_sub (pe_un un_neg pe_int) (pe_call (ok_law_draw T) (hr.mono (by decide)) (by rfl) T.g_law_draw (T.F_law_draw).kp T.b_law_draw .nil pass0 (pa_cons (pv 0) (pa_cons pe_int pa_nil)))) (pe_call (ok_law_draw T) (hr.mono (by decide)) (by rfl) T.g_law_draw (T.F_law_draw).kp T.b_law_draw .nil pass0 (pa_cons (pv 0) (pa_cons pe_int pa_nil)))) pa_nil)) (by rfl))
      (pss_cons (ps_if (pt_cmpR op_eq (pe_ix (r := rIxL K) ix_list (pv 2) pe_int (fun _ _ => rfl)) pe_int (nomark _)) (pss_one (ps_set (i := 4) scLr.nd rfl (Or.inl rfl) (pe_ix (r := rIxL K) ix_list (pe_lst (pa_cons (pe_tup (pa_cons (pe_op (show OpR _ _ (rCatA K) from op_catA) (pv 1) (pe_tup (pa_cons (pe_tup (pa_cons (pe_callB (r := Evl.rLenS K) call_len_seq (by rfl) T.n_len PyProof.Rows.Boot.«len» (pa_cons (pv 1) pa_nil)) (pa_cons pe_int pa_nil))) pa_nil))) (pa_cons pe_non pa_nil))) (pa_cons (pe_tup (pa_cons (pe_op (show OpR _ _ (rCatA K) from op_catA) (pv 1) (pe_tup (pa_cons (pe_tup (pa_cons pe_int (pa_cons pe_int pa_nil))) pa_nil))) (pa_cons pe_int pa_nil))) (pa_cons (pe_tup (pa_cons (pe_op (show OpR _ _ (rCatA K) from op_catA) (pe_tup (pa_cons (pe_tup (pa_cons (pe_un un_neg pe_int) (pa_cons pe_int pa_nil))) pa_nil)) (pv 1)) (pa_cons pe_non pa_nil))) pa_nil)))) (pe_call (ok_law_draw T) (hr.mono (by decide)) (by rfl) T.g_law_draw (T.F_law_draw).kp T.b_law_draw .nil pass0 (pa_cons (pv 0) (pa_cons pe_int pa_nil))) (fun _ _ => rfl)))) pss_nil)
      (pss_cons (ps_asg (pe_call (ok_law_done T) (hr.mono (by decide)) (by rfl) T.g_law_done (T.F_law_done).kp T.b_law_done .nil pass0 (pa_cons pe_str (pa_cons (pe_tup pa_nil) (pa_cons (pe_tup (pa_cons (pv 3) (pa_cons (pv 4) (pa_cons (pv 5) (pa_cons (pe_tup (pa_cons pe_int (pa_cons pe_int pa_nil))) pa_nil))))) (pa_cons pe_int pa_nil))))) (pg_tup (by rfl) (pgs_cons (pg_name (i := 6) scLr.nd rfl (Or.inl rfl)) (pgs_cons (pg_name (i := 7) scLr.nd rfl (Or.inl rfl)) pgs_nil))))
      (pss_cons (ps_if (pt_cmpR (op_eqD hr.units) (pv 2) (pe_lst (pa_cons pe_int (pa_cons pe_int (pa_cons pe_int pa_nil)))) (nomark _)) (pss_one (ps_ret (pe_and (pe_cmpR op_isN (pv 7) pe_non (nomark _)) (pe_one (pe_callB (r := rIsi K) call_isi (by rfl) T.n_isinstance PyProof.Rows.Boot.«isinstance» (pa_cons (pv 6) (pa_cons (pe_bltn (v := .ty "tuple") (by rfl) T.n_tuple PyProof.Rows.Boot.«tuple» rfl) pa_nil))))))) pss_nil)
      (pss_cons (ps_set (i := 8) scLr.nd rfl (Or.inr rfl) (pe_lst (pa_cons (pe_tup (pa_cons pe_str (pa_cons (pv 3) pa_nil))) (pa_cons (pe_tup (pa_cons pe_str (pa_cons (pv 4) pa_nil))) (pa_cons (pe_tup (pa_cons pe_str (pa_cons (pv 5) pa_nil))) pa_nil)))))
      (pss_one (ps_ret (pe_call (ok_law_refused T) (hr.mono (by decide)) (by rfl) T.g_law_refused (T.F_law_refused).kp T.b_law_refused .nil pass0 (pa_cons (pv 7) (pa_cons (pe_ix (r := rIxL K) ix_list (pe_lc (own := [("at", 10)]) (g := gName 10) (by rfl) scLr.nd (pi_range1 (by rfl) T.n_range (pa_cons pe_int pa_nil)) (blkOk_by (own := [("at", 10)]) (N := ["deck", "row", "bad", "house", "known", "first", "found", "caught", "dues", "tick", "at"]) (sc := defScope s_law_letters_right) (by decide +kernel)) (fun _ _ _ _ _ => pg_name (i := 10) scLr.nd rfl (Or.inl rfl)) (fun _ _ _ _ _ => pts_one (pt_cmpR op_eq (pe_ix (r := rIxL K) ix_list (pv 2) (pv 10) (fun _ _ => rfl)) pe_int (nomark _))) (fun _ _ _ _ _ => (pe_ix (r := rIxL K) ix_list (pv 8) (pv 10) (fun _ _ => rfl)))) pe_int (fun _ _ => rfl)) pa_nil))))))))))))), ?_⟩
    refine ⟨_, rfl, d, 6, n + 99, rfl, by decide, by decide, hD, fun x0 H1 a1 a2 f1 D1 => ⟨x0, rfl, by omega, by omega, fun D hD => ?_⟩⟩
    have hDd := D1.ne hD
    refine lc_range (lo := 0) (n := x0.toNat) (fun i H' => ∃ (qs : List Addr) (r : Rw), H' D = some (.lst (qs.map V.ref)) ∧ Paired (fun q (e : Int × Int) => SqT K H' q [.int e.1, .int e.2]) qs r ∧ r.length = i ∧ (keys r).Pairwise (· < ·) ∧ (∀ e ∈ r, 0 ≤ e.1 ∧ e.1 < (i : Int) ∧ 0 ≤ e.2 ∧ e.2 ≤ 63) ∧ Frm d H1 H' ∧ Dk H' d (n + 99 - i)) ⟨[], [], upd_same, .nil, rfl, .nil, (fun e h => nomatch h), Frm.of_new hD, D1.upd hDd⟩ (fun i H' hi h => ?_) (fun H2 h => ?_)
    · obtain ⟨qs, r, hacc, hpr, hrl, hasc, hrg, fr, DD⟩ := h
      have hi6 : i < 6 := by omega
      have hql := Paired.length hpr
      refine ⟨rfl, ?_⟩
      dsimp only [tYes]
      rw [if_pos rfl]
      refine ⟨_, rfl, _, rfl, d, 64, n + 98 - i, rfl, by decide, by decide, DD.le (by omega), fun x H3 c1 c2 f3 D3 => ⟨(show 2 ≤ sizeLine by decide), fun q nq => ?_⟩⟩
      obtain ⟨xd, hxd⟩ := DD.lst
      have sq := new_same (o := .tup [.int (0 + (i : Int)), .int x]) nq
      have hacc3 := sq _ _ (f3 D _ hDd hacc)
      have tR := TF.of_lst (o := .lst (qs.map V.ref ++ [V.ref q])) hacc3
      refine ⟨_, hacc3, by rw [List.length_map]; exact Nat.lt_of_lt_of_le (show qs.length < 100 by omega) (by decide), qs ++ [q], r ++ [(0 + (i : Int), x)], ?_, ?_, by rw [List.length_append, hrl]; rfl, ?_, fun e he => ?_, fun b o hb w => ?_, ((D3.same sq).upd hDd).le (by omega)⟩
      · rw [upd_same, List.map_append]
        rfl
      · exact paired_app (L2.Paired.mapP hpr fun _ _ w => tR.sq ((same_tf sq).sq ((f3.tf hxd).sq w))) (.cons (tR.sq (SqT.of upd_same)) .nil)
      · unfold keys
        rw [List.map_append, List.pairwise_append]
        refine ⟨hasc, by simp, fun a ha b hb => ?_⟩
        obtain ⟨e, he, rfl⟩ := List.mem_map.mp ha
        simp at hb
        rw [hb]
        exact (hrg e he).2.1
      · rcases List.mem_append.mp he with he | he
        · have := hrg e he
          omega
        · rw [List.mem_singleton.mp he]
          exact ⟨by show 0 ≤ 0 + (i : Int); omega, by show 0 + (i : Int) < ((i + 1 : Nat) : Int); omega, c1, by show x ≤ 63; omega⟩
      · rw [upd_ne (ne_of_none w hD)]
        exact sq _ _ (f3 b o hb (fr b o hb w))
    obtain ⟨qs, r, hacc, hpr, hrl, hasc, hrg, fr, DD⟩ := h
    have hql := Paired.length hpr
    refine ⟨D, _, rfl, .inl ⟨SqL.of hacc, fun rr nr => ?_⟩⟩
    have sr := new_same (o := .tup (qs.map V.ref)) nr
    have D3 := (DD.same sr).le (show n + 60 ≤ n + 99 - x0.toNat by omega)
    have f3 := (f1.trans fr).trans (Frm.of_same sr)
    have q3 : SqT K (upd H2 rr (.tup (qs.map V.ref))) rr (qs.map V.ref) := SqT.of upd_same
    have hpr3 : Paired (fun q (e : Int × Int) => SqT K (upd H2 rr (.tup (qs.map V.ref))) q [.int e.1, .int e.2]) qs r := L2.Paired.mapP hpr fun _ _ w => (same_tf sr).sq w
    have hr6 : r.length ≤ 5 := by omega
    replace hrg : ∀ e ∈ r, 0 ≤ e.1 ∧ e.1 < 6 ∧ 0 ≤ e.2 ∧ e.2 ≤ 63 := fun e he => by
      have := hrg e he
      omega
    generalize (upd H2 rr (.tup (qs.map V.ref))) = H3 at D3 f3 q3 hpr3 ⊢
    clear hpr hacc fr DD sr nr hD hDd hrl f1 D1
    refine ⟨_, rfl, d, 2, n + 59, rfl, by decide, by decide, D3, fun b0 H4 e1 e2 f4 D4 => ?_⟩
    refine ⟨_, rfl, d, 2, n + 58, rfl, by decide, by decide, D4, fun b1 H5 e3 e4 f5 D5 => ?_⟩
    refine ⟨_, rfl, d, 2, n + 57, rfl, by decide, by decide, D5, fun b2 H6 e5 e6 f6 D6 => ⟨(show 3 ≤ sizeLine by decide), fun Bd nBd => ?_⟩⟩
    have sB := new_same (o := .lst ([b0, b1, b2].map V.int)) nBd
    have hBd := D6.ne nBd
    have g37 := ((f4.trans f5).trans f6).trans (Frm.of_same sB)
    have hB7 : (upd H6 Bd (.lst ([b0, b1, b2].map V.int))) Bd = some (.lst ([b0, b1, b2].map V.int)) := upd_same
    have D7 := D6.same sB
    obtain ⟨xd3, hxd3⟩ := D3.lst
    have q7 := (g37.tf hxd3).sq q3
    have hpr7 := L2.Paired.mapP hpr3 fun _ _ w => (g37.tf hxd3).sq w
    have f7 := f3.trans g37
    generalize hH7 : (upd H6 Bd (.lst ([b0, b1, b2].map V.int))) = H7 at g37 hB7 D7 q7 hpr7 f7
    have eH7 : (upd H6 Bd (.lst [V.int b0, V.int b1, V.int b2])) = H7 := hH7
    rw [eH7]
    clear q3 hpr3 g37 f4 f5 f6 D4 D5 D6 D3 f3 sB nBd eH7 hH7 hxd3
    obtain ⟨xd7, hxd7⟩ := D7.lst
    dsimp only
    refine seq_cut (fun σ H8 => ∃ house : Int, σ = [some (.ref d), some (.ref rr), some (.ref Bd), some (.int house), none, none, none, none, none, none, none] ∧ sm house ∧ (b0 = 1 → house < 0) ∧ (b0 ≠ 1 → 0 ≤ house) ∧ Frm d H7 H8 ∧ Dk H8 d (n + 50)) (fun σ H8 h => ?_) (fun R hR => ?_)
    rotate_left
    · refine ⟨_, rfl, Bd, _, _, _, rfl, rfl, SqL.of hB7, atI_nat (j := 0) rfl, by rfl, _, rfl, ite2 (fun z => ?_) (fun z => ?_)⟩
      · have hb : b0 = 1 := by
          have := of_decide_eq_true z
          injection this
        refine ⟨_, rfl, _, rfl, d, 9, n + 56, rfl, by decide, by decide, D7, fun x H8 c1 c2 f8 D8 => ⟨_, _, rfl, rfl, ?_⟩⟩
        exact hR _ _ ⟨-1 - x, rfl, by unfold sm; omega, fun _ => by omega, fun e => absurd hb e, f8, D8.le (by omega)⟩
      · have hb : b0 ≠ 1 := fun e => z (decide_eq_true (by rw [e]))
        refine ⟨_, rfl, d, 4, n + 56, rfl, by decide, by decide, D7, fun x H8 c1 c2 f8 D8 => ?_⟩
        exact hR _ _ ⟨x, rfl, by unfold sm; omega, fun e => absurd e hb, fun _ => c1, f8, D8.le (by omega)⟩
    obtain ⟨house, rfl, mh, hh1, hh0, F8, D8⟩ := h
    have up : ∀ {Hk : Hp}, Frm d H7 Hk → Hk Bd = some (.lst ([b0, b1, b2].map V.int)) ∧ SqT K Hk rr (qs.map V.ref) ∧ Paired (fun q (e : Int × Int) => SqT K Hk q [.int e.1, .int e.2]) qs r := fun f => ⟨f Bd _ hBd hB7, (f.tf hxd7).sq q7, L2.Paired.mapP hpr7 fun _ _ w => (f.tf hxd7).sq w⟩
    refine seq_cut (fun σ H9 => ∃ (kt : Addr) (first : Int), σ = [some (.ref d), some (.ref rr), some (.ref Bd), some (.int house), some (.ref kt), some (.int first), none, none, none, none, none] ∧ SqT K H9 kt [.ref rr, .non] ∧ sm first ∧ (b2 = 1 → first < 0) ∧ (b2 ≠ 1 → 0 ≤ first) ∧ Frm d H7 H9 ∧ Dk H9 d (n + 40)) (fun σ H9 h => ?_) (fun R hR => ?_)
    rotate_left
    · refine ⟨_, rfl, (show 2 ≤ sizeLine by decide), fun kt nkt => ?_⟩
      have sk := new_same (o := .tup [.ref rr, .non]) nkt
      have Fk := F8.trans (Frm.of_same sk)
      have qk : SqT K (upd H8 kt (.tup [.ref rr, .non])) kt [.ref rr, .non] := SqT.of upd_same
      have Dk' := D8.same sk
      generalize (upd H8 kt (.tup [.ref rr, .non])) = Hk at sk Fk qk Dk' ⊢
      obtain ⟨xdk, hxdk⟩ := Dk'.lst
      refine ⟨_, rfl, Bd, _, _, _, rfl, rfl, SqL.of (up Fk).1, atI_nat (j := 2) rfl, by rfl, _, rfl, ite2 (fun z => ?_) (fun z => ?_)⟩
      · have hb : b2 = 1 := by
          have := of_decide_eq_true z
          injection this
        refine ⟨_, rfl, _, rfl, d, 50, n + 49, rfl, by decide, by decide, Dk', fun x H9 c1 c2 f9 D9 => ⟨_, _, rfl, rfl, _, _, rfl, ?_⟩⟩
        exact hR _ _ ⟨kt, -1 - x, rfl, (f9.tf hxdk).sq qk, by unfold sm; omega, fun _ => by omega, fun e => absurd hb e, Fk.trans f9, D9.le (by omega)⟩
      · have hb : b2 ≠ 1 := fun e => z (decide_eq_true (by rw [e]))
        refine ⟨_, rfl, d, 9, n + 49, rfl, by decide, by decide, Dk', fun x H9 c1 c2 f9 D9 => ⟨_, _, rfl, ?_⟩⟩
        exact hR _ _ ⟨kt, x, rfl, (f9.tf hxdk).sq qk, by unfold sm; omega, fun e => absurd e hb, fun _ => c1, Fk.trans f9, D9.le (by omega)⟩
    obtain ⟨kt, first, rfl, qkt, mf, hf1, hf0, F9, D9⟩ := h
    have okr : Kn.ok ⟨r, none⟩ := ⟨hasc, fun e he => by have := hrg e he; show 0 ≤ e.1 ∧ e.1 < 1000 ∧ 0 ≤ e.2 ∧ e.2 ≤ 63; omega, fun g hg => (nomatch hg)⟩
    have smr : ∀ e ∈ r, sm e.1 ∧ sm e.2 := fun e he => by
      have := hrg e he
      unfold sm
      omega
    refine seq_cut (fun σ H10 => ∃ (kt : Addr) (k : Kn), σ = [some (.ref d), some (.ref rr), some (.ref Bd), some (.int house), some (.ref kt), some (.int first), none, none, none, none, none] ∧ KnH K H10 (.ref kt) k ∧ k.sm ∧ (b1 ≠ 1 → k.ok) ∧ (b1 = 1 → (∀ g, k.ends = some g → 0 ≤ g) ∧ k.row.all (mkOk k.ends) = false) ∧ Frm d H7 H10 ∧ Dk H10 d (n + 30)) (fun σ H10 h => ?_) (fun R hR => ?_)
    rotate_left
    · refine ⟨_, rfl, Bd, _, _, _, rfl, rfl, SqL.of (up F9).1, atI_nat (j := 1) rfl, by rfl, _, rfl, ite2 (fun z => ?_) (fun z => ?_)⟩
      · have hb : b1 = 1 := by
          have := of_decide_eq_true z
          injection this
        have q9 := (up F9).2.1
        have hpr9 := (up F9).2.2
        have q9l : (qs.map V.ref).length ≤ 5 := by rw [List.length_map]; omega
        refine ⟨_, rfl, _, rfl, rr, _, rfl, .inr q9, (show 2 ≤ sizeLine by decide), fun p1 np1 => ⟨(show 1 ≤ sizeLine by decide), fun p2 np2 => ?_⟩⟩
        have s1 := new_same (o := .tup [.int ((qs.map V.ref).length : Nat), .int 64]) np1
        have s2 := new_same (o := .tup [.ref p1]) np2
        have z1 : SqT K (upd (upd H9 p1 (.tup [.int ((qs.map V.ref).length : Nat), .int 64])) p2 (.tup [.ref p1])) p1 [.int ((qs.map V.ref).length : Nat), .int 64] := (same_tf s2).sq (SqT.of upd_same)
        refine catV ((same_tf (s1.trans s2)).sq q9) (SqT.of upd_same) (by simp; omega) (fun u1 H10 s3 c1 => ⟨(show 2 ≤ sizeLine by decide), fun t1 nt1 => ?_⟩)
        have s4 := new_same (o := .tup [.ref u1, .non]) nt1
        have S4 := ((s1.trans s2).trans s3).trans s4
        have k1 : KnH K (upd H10 t1 (.tup [.ref u1, .non])) (.ref t1) ⟨r ++ [(((qs.map V.ref).length : Int), 64)], none⟩ := ⟨t1, u1, qs ++ [p1], rfl, SqT.of upd_same, by
          rw [List.map_append]
          exact (same_tf s4).sq c1, paired_app (L2.Paired.mapP hpr9 fun _ _ w => (same_tf S4).sq w) (.cons ((same_tf (s3.trans s4)).sq z1) .nil)⟩
        generalize (upd H10 t1 (.tup [.ref u1, .non])) = H11 at S4 k1 ⊢
        clear s1 s2 s3 s4 c1 z1 np1 np2 nt1
        refine ⟨_, rfl, (show 2 ≤ sizeLine by decide), fun p1' np1 => ⟨(show 1 ≤ sizeLine by decide), fun p2' np2 => ?_⟩⟩
        have s1 := new_same (o := .tup [.int 9, .int 1]) np1
        have s2 := new_same (o := .tup [.ref p1']) np2
        have z1 : SqT K (upd (upd H11 p1' (.tup [.int 9, .int 1])) p2' (.tup [.ref p1'])) p1' [.int 9, .int 1] := (same_tf s2).sq (SqT.of upd_same)
        refine catV ((same_tf (S4.trans (s1.trans s2))).sq q9) (SqT.of upd_same) (by simp; omega) (fun u2 H12 s3 c1 => ⟨(show 2 ≤ sizeLine by decide), fun t2 nt2 => ?_⟩)
        have s4 := new_same (o := .tup [.ref u2, .int 9]) nt2
        have S5 := ((s1.trans s2).trans s3).trans s4
        have k2 : KnH K (upd H12 t2 (.tup [.ref u2, .int 9])) (.ref t2) ⟨r ++ [(9, 1)], some 9⟩ := ⟨t2, u2, qs ++ [p1'], rfl, SqT.of upd_same, by
          rw [List.map_append]
          exact (same_tf s4).sq c1, paired_app (L2.Paired.mapP hpr9 fun _ _ w => (same_tf (S4.trans S5)).sq w) (.cons ((same_tf (s3.trans s4)).sq z1) .nil)⟩
        have k1' := k1.tf S5
        have S6 := S4.trans S5
        generalize (upd H12 t2 (.tup [.ref u2, .int 9])) = H13 at S6 k2 k1' ⊢
        clear s1 s2 s3 s4 c1 z1 np1 np2 nt2 S5 S4 k1
        refine ⟨_, rfl, (show 2 ≤ sizeLine by decide), fun p1'' np1 => ⟨(show 1 ≤ sizeLine by decide), fun p2'' np2 => ⟨_, rfl, ?_⟩⟩⟩
        have s1 := new_same (o := .tup [.int (-1), .int 0]) np1
        have s2 := new_same (o := .tup [.ref p1'']) np2
        have z1 : SqT K (upd (upd H13 p1'' (.tup [.int (-1), .int 0])) p2'' (.tup [.ref p1''])) p1'' [.int (-1), .int 0] := (same_tf s2).sq (SqT.of upd_same)
        refine catV (SqT.of upd_same) ((same_tf (S6.trans (s1.trans s2))).sq q9) (by simp; omega) (fun u3 H14 s3 c1 => ⟨(show 2 ≤ sizeLine by decide), fun t3 nt3 => ⟨(show 3 ≤ sizeLine by decide), fun L nL => ?_⟩⟩)
        have s4 := new_same (o := .tup [.ref u3, .non]) nt3
        have s5 := new_same (o := .lst ([t1, t2, t3].map V.ref)) nL
        have S7 := (((s1.trans s2).trans s3).trans s4).trans s5
        have k3 : KnH K (upd (upd H14 t3 (.tup [.ref u3, .non])) L (.lst ([t1, t2, t3].map V.ref))) (.ref t3) ⟨(-1, 0) :: r, none⟩ := ⟨t3, u3, p1'' :: qs, rfl, (same_tf s5).sq (SqT.of upd_same), (same_tf (s4.trans s5)).sq c1, .cons ((same_tf ((s3.trans s4).trans s5)).sq z1) (L2.Paired.mapP hpr9 fun _ _ w => (same_tf (S6.trans S7)).sq w)⟩
        have k1'' := k1'.tf S7
        have k2'' := k2.tf S7
        have D14 := (D9.same S6).same S7
        have hLd := (D9.same S6).same (((s1.trans s2).trans s3).trans s4) |>.ne nL
        refine ⟨_, rfl, d, 3, n + 39, rfl, by decide, by decide, D14, fun x H15 c2 c3 f15 D15 => ?_⟩
        obtain ⟨xd14, hxd14⟩ := D14.lst
        have t15 := f15.tf hxd14
        have FF := (F9.trans (Frm.of_same (S6.trans S7))).trans f15
        obtain ⟨y, hy, hat⟩ := at_mem V.ref [t1, t2, t3] c2 (by simpa using c3)
        refine ⟨L, _, _, _, rfl, rfl, SqL.of (f15 L _ hLd upd_same), hat, ?_⟩
        have smx : ∀ {a b : Int}, sm a → sm b → ∀ e ∈ r ++ [(a, b)], sm e.1 ∧ sm e.2 := fun {a b} h1 h2 e he => by
          rcases List.mem_append.mp he with he | he
          · exact smr e he
          · rw [List.mem_singleton.mp he]
            exact ⟨h1, h2⟩
        simp only [List.mem_cons, List.not_mem_nil, or_false] at hy
        rcases hy with rfl | rfl | rfl
        · refine hR _ _ ⟨y, _, rfl, k1''.tF t15, ⟨by show (r ++ [_]).length ≤ 40; rw [List.length_append, List.length_singleton]; omega, smx (by unfold sm; omega) (by unfold sm; omega), fun g hg => (nomatch hg)⟩, fun e => absurd hb e, fun _ => ⟨fun g hg => (nomatch hg), ?_⟩, FF, D15.le (by omega)⟩
          show (r ++ [_]).all _ = false
          rw [List.all_append]
          simp [mkOk]
        · refine hR _ _ ⟨y, _, rfl, k2''.tF t15, ⟨by show (r ++ [_]).length ≤ 40; rw [List.length_append, List.length_singleton]; omega, smx (by unfold sm; omega) (by unfold sm; omega), fun g hg => by cases hg; unfold sm; omega⟩, fun e => absurd hb e, fun _ => ⟨fun g hg => by cases hg; decide, ?_⟩, FF, D15.le (by omega)⟩
          show (r ++ [_]).all _ = false
          rw [List.all_append]
          simp [mkOk]
        · refine hR _ _ ⟨y, _, rfl, k3.tF t15, ⟨by show r.length + 1 ≤ 40; omega, fun e he => ?_, fun g hg => (nomatch hg)⟩, fun e => absurd hb e, fun _ => ⟨fun g hg => (nomatch hg), ?_⟩, FF, D15.le (by omega)⟩
          · rcases List.mem_cons.mp he with rfl | he
            · unfold sm
              exact ⟨by decide, by decide⟩
            · exact smr e he
          · simp [mkOk]
      · have hb : b1 ≠ 1 := fun e => z (decide_eq_true (by rw [e]))
        exact hR _ _ ⟨kt, ⟨r, none⟩, rfl, ⟨kt, rr, qs, rfl, qkt, (up F9).2.1, (up F9).2.2⟩, ⟨by show r.length ≤ 40; omega, smr, fun g hg => (nomatch hg)⟩, fun _ => okr, fun e => absurd e hb, F9, D9.le (by omega)⟩
    obtain ⟨kt', k, rfl, hk, mk, hk1, hk2, F10, D10⟩ := h
    have hb01 : (b0 = 0 ∨ b0 = 1) ∧ (b1 = 0 ∨ b1 = 1) ∧ (b2 = 0 ∨ b2 = 1) := by omega
    refine ⟨(show 0 ≤ sizeLine by decide), fun e0 ne0 => ⟨_, rfl, _, rfl, _, rfl, (show 2 ≤ sizeLine by decide), fun g ng => ⟨(show 4 ≤ sizeLine by decide), fun tp ntp => ?_⟩⟩⟩
    have s1 := new_same (o := .tup []) ne0
    have s2 := new_same (o := .tup [.int 0, .int 3]) ng
    have s3 := new_same (o := .tup [.int house, .ref kt', .int first, .ref g]) ntp
    have S3 := (s1.trans s2).trans s3
    have kn : k.ok ∨ ((∀ g, k.ends = some g → 0 ≤ g) ∧ k.row.all (mkOk k.ends) = false) := by
      by_cases e : b1 = 1
      · exact .inr (hk2 e)
      · exact .inl (hk1 e)
    refine ⟨rfl, (fun u H => (0 ≤ house ∧ k.ok ∧ 0 ≤ first) ∧ ∃ l, LeH K H u l), (fun x z => (house < 0 ∧ x = "InvalidHouse" ∧ z = .int house) ∨ (0 ≤ house ∧ k.row.all (mkOk k.ends) = false ∧ x = "InvalidKnown" ∧ z = .ref kt') ∨ (0 ≤ house ∧ k.ok ∧ first < 0 ∧ x = "InvalidTick" ∧ z = .int first)),
      .letter (hs := [0, 3]) (SqT.of upd_same) (hk.tf S3) ((same_tf s3).sq (SqT.of upd_same)) mh mf mk kn (fun h0 o h1 u H' _ hl => ⟨⟨h0, o, h1⟩, _, hl⟩) (fun h => .inl ⟨h, rfl, rfl⟩) (fun h1 h2 => .inr (.inl ⟨h1, h2, rfl, rfl⟩)) (fun h1 h2 h3 => .inr (.inr ⟨h1, h2, h3, rfl, rfl⟩)), fun u H1 H2 s h => ⟨h.1, h.2.choose, h.2.choose_spec.tf (same_tf s)⟩, fun t u H' s ho sq => ?_, fun t ae x z H' s he hE sq => ?_⟩
    · obtain ⟨⟨h0, ho1, h1⟩, l, hl⟩ := ho
      have S4 := S3.trans s
      have FF := F10.trans (Frm.of_same S4)
      refine ⟨t, _, rfl, sq, rfl, _, _, rfl, _, _, rfl, rfl, ?_⟩
      refine ⟨_, rfl, (show 3 ≤ sizeLine by decide), fun z nz => ?_⟩
      have sz := new_same (o := .lst ([0, 0, 0].map V.int)) nz
      refine ⟨.list ([b0, b1, b2].map .int), .list ([0, 0, 0].map .int), .lst (SqL.of (sz _ _ (up FF).1)) (ints_dp _), .lst (SqL.of upd_same) (ints_dp [0, 0, 0]), shaped_intsL _, shaped_intsL _, _, rfl, ?_⟩
      have eb : ([b0, b1, b2] : List Int) = [0, 0, 0] := by
        have e0 : b0 = 0 := by
          rcases hb01.1 with e | e
          · exact e
          · have := hh1 e
            omega
        have e1 : b1 = 0 := by
          rcases hb01.2.1 with e | e
          · exact e
          · have := (hk2 e).2
            rw [ok_all ho1] at this
            cases this
        have e2 : b2 = 0 := by
          rcases hb01.2.2 with e | e
          · exact e
          · have := hf1 e
            omega
        rw [e0, e1, e2]
      rw [show PyData.eqv (.list ([b0, b1, b2].map .int)) (.list ([0, 0, 0].map .int)) = decide (([b0, b1, b2] : List Int) = [0, 0, 0]) by rw [PyData.eqv, eqv_intsL], decide_eq_true eb]
      obtain ⟨tt, r', g', rfl, q1, q2, q3⟩ := hl
      refine iteT ⟨_, rfl, rfl, _, rfl, ite2 (fun _ => ?_) (fun w => absurd (by decide) w)⟩
      have SS := S4.trans sz
      exact ⟨_, rfl, _, _, _, _, _, rfl, .ty "tuple", ty_tup ((same_tf sz).sq q1), kit_ty (r := true) (by decide +kernel), kk _ ((f7.trans F10).trans (Frm.of_same SS)) ((D10.same SS).le (by omega))⟩
    · have S4 := S3.trans s
      have FF := F10.trans (Frm.of_same S4)
      refine ⟨t, _, rfl, sq, rfl, _, _, rfl, _, _, rfl, rfl, ?_⟩
      refine ⟨_, rfl, (show 3 ≤ sizeLine by decide), fun z0 nz => ?_⟩
      have sz := new_same (o := .lst ([0, 0, 0].map V.int)) nz
      refine ⟨.list ([b0, b1, b2].map .int), .list ([0, 0, 0].map .int), .lst (SqL.of (sz _ _ (up FF).1)) (ints_dp _), .lst (SqL.of upd_same) (ints_dp [0, 0, 0]), shaped_intsL _, shaped_intsL _, _, rfl, ?_⟩
      have eb : ¬ ([b0, b1, b2] : List Int) = [0, 0, 0] := fun e => by
        have e0 : b0 = 0 := by injection e
        have e1 : b1 = 0 := by injection e with _ e; injection e
        have e2 : b2 = 0 := by injection e with _ e; injection e with _ e; injection e
        have g0 := hh0 (by omega)
        have g1 := hk1 (by omega)
        have g2 := hf0 (by omega)
        rcases he with ⟨w, _⟩ | ⟨_, w, _⟩ | ⟨_, _, w, _⟩
        · omega
        · rw [ok_all g1] at w
          cases w
        · omega
      rw [show PyData.eqv (.list ([b0, b1, b2].map .int)) (.list ([0, 0, 0].map .int)) = decide (([b0, b1, b2] : List Int) = [0, 0, 0]) by rw [PyData.eqv, eqv_intsL], decide_eq_false eb]
      refine iteF ?_
      dsimp only [tNext]
      refine ⟨_, rfl, (show 2 ≤ sizeLine by decide), fun q0 n0 => ⟨_, rfl, (show 2 ≤ sizeLine by decide), fun q1 n1 => ⟨_, rfl, (show 2 ≤ sizeLine by decide), fun q2 n2 => ⟨(show 3 ≤ sizeLine by decide), fun Lq nLq => ?_⟩⟩⟩⟩
      have v0 := new_same (o := .tup [.str "house", .int house]) n0
      have v1 := new_same (o := .tup [.str "known", .ref kt']) n1
      have v2 := new_same (o := .tup [.str "tick", .int first]) n2
      have v3 := new_same (o := .lst ([q0, q1, q2].map V.ref)) nLq
      obtain ⟨Hq, hq⟩ : ∃ Hq : Hp, Hq = (upd (upd (upd (upd (upd H' z0 (.lst [V.int 0, V.int 0, V.int 0])) q0 (.tup [.str "house", .int house])) q1 (.tup [.str "known", .ref kt'])) q2 (.tup [.str "tick", .int first])) Lq (.lst [V.ref q0, V.ref q1, V.ref q2])) := ⟨_, rfl⟩
      have w0 : SqT K Hq q0 [.str "house", .int house] := by
        rw [hq]
        exact (same_tf ((v1.trans v2).trans v3)).sq (SqT.of upd_same)
      have w1 : SqT K Hq q1 [.str "known", .ref kt'] := by
        rw [hq]
        exact (same_tf (v2.trans v3)).sq (SqT.of upd_same)
      have w2 : SqT K Hq q2 [.str "tick", .int first] := by
        rw [hq]
        exact (same_tf v3).sq (SqT.of upd_same)
      have wL : Hq Lq = some (.lst ([q0, q1, q2].map V.ref)) := by
        rw [hq]
        exact upd_same
      have V3 : Same H' Hq := by
        rw [hq]
        exact sz.trans (((v0.trans v1).trans v2).trans v3)
      rw [← hq]
      have SQ := S4.trans V3
      have FQ := F10.trans (Frm.of_same SQ)
      refine ⟨_, rfl, 3, rfl, by decide, by decide, fun D hD => ?_⟩
      refine lc_range (lo := 0) (n := 3) (fun i H'' => Same Hq H'' ∧ H'' D = some (.lst (sel [b0, b1, b2] [q0, q1, q2] i))) ⟨new_same hD, upd_same⟩ (fun i H'' hi h => ?_) (fun H'' h => ?_)
      · obtain ⟨sm', hacc⟩ := h
        have hB'' := sm' _ _ (up FQ).1
        refine ⟨rfl, ?_⟩
        refine ⟨_, rfl, _, rfl, Bd, _, _, _, rfl, rfl, SqL.of hB'', at_of (j := i) (by omega) (int_at (row := [b0, b1, b2]) hi), by rfl, _, rfl, ite2 (fun z => ?_) (fun z => ?_)⟩
        · have hz : [b0, b1, b2].getD i 0 = 1 := by
            have := of_decide_eq_true z
            injection this
          refine ⟨_, rfl, _, rfl, Lq, _, _, _, rfl, rfl, SqL.of (sm' _ _ wL), at_of (j := i) (by omega) (ref_at (row := [q0, q1, q2]) hi), _, hacc, Nat.lt_of_le_of_lt sel_len (Nat.lt_of_lt_of_le hi (by decide)), fun b o w => ?_, ?_⟩
          · rw [upd_ne (ne_of_none w hD)]
            exact sm' _ _ w
          · rw [upd_same, sel_next, if_pos hz]
        · have hz : ¬ [b0, b1, b2].getD i 0 = 1 := fun e => z (decide_eq_true (by rw [e]))
          show Same Hq H'' ∧ H'' D = _
          rw [sel_next, if_neg hz, List.append_nil]
          exact ⟨sm', hacc⟩
      obtain ⟨s5, hacc⟩ := h
      have SZ := SQ.trans s5
      have fin : ∀ H3, Same H'' H3 → Q (.bl true) H3 := fun H3 s6 => kk H3 ((f7.trans F10).trans (Frm.of_same (SZ.trans s6))) ((D10.same (SZ.trans s6)).le (by omega))
      have hE5 := hE.on (V3.trans s5)
      rcases he with ⟨h1, rfl, rfl⟩ | ⟨h1, h2, rfl, rfl⟩ | ⟨h1, h2, h3, rfl, rfl⟩
      · have ee0 : b0 = 1 := by
          rcases hb01.1 with e | e
          · have := hh0 (by omega)
            omega
          · exact e
        subst ee0
        refine ⟨D, _, _, .ref q0, rfl, rfl, SqL.of hacc, atI_nat (j := 0) (by rfl), ae, q0, "InvalidHouse", "house", .int house, .int house, .int house, rfl, by decide +kernel, hE5, (same_tf s5).sq w0, .int _, .int _, trivial, trivial, fin⟩
      · have ee0 : b0 = 0 := by
          rcases hb01.1 with e | e
          · exact e
          · have := hh1 e
            omega
        have ee1 : b1 = 1 := by
          rcases hb01.2.1 with e | e
          · have := hk1 (by omega)
            rw [ok_all this] at h2
            cases h2
          · exact e
        subst ee0
        subst ee1
        have dk1 := dp_kn (hk.tf SZ)
        refine ⟨D, _, _, .ref q1, rfl, rfl, SqL.of hacc, atI_nat (j := 0) (by rfl), ae, q1, "InvalidKnown", "known", .ref kt', .ref kt', kpy k, rfl, by decide +kernel, hE5, (same_tf s5).sq w1, dk1, dk1, nl_kn k, al_kn mk.len, fin⟩
      · have ee0 : b0 = 0 := by
          rcases hb01.1 with e | e
          · exact e
          · have := hh1 e
            omega
        have ee1 : b1 = 0 := by
          rcases hb01.2.1 with e | e
          · exact e
          · have := (hk2 e).2
            rw [ok_all h2] at this
            cases this
        have ee2 : b2 = 1 := by
          rcases hb01.2.2 with e | e
          · have := hf0 (by omega)
            omega
          · exact e
        subst ee0
        subst ee1
        subst ee2
        refine ⟨D, _, _, .ref q2, rfl, rfl, SqL.of hacc, atI_nat (j := 0) (by rfl), ae, q2, "InvalidTick", "tick", .int first, .int first, .int first, rfl, by decide +kernel, hE5, (same_tf s5).sq w2, .int _, .int _, trivial, trivial, fin⟩
end
end K51
set_option maxRecDepth 100000
set_option maxHeartbeats 4000000
/-! The law. -/
namespace K51
open PySem PySem.Spec PyProof.Rows L2 KF KD
section
variable {P : Program} {w : World} {K : PySem.W.Frag} {mg : Str → Option Value} {base : Heap}
def spLaw (K : PySem.W.Frag) : Sp := fun vs H Q _ => ∃ (a : Addr) (ns : List Int), vs = [.ref a] ∧ SqL K H a (ns.map V.int) ∧ ns.length ≤ 63 ∧ ∀ H', Q (.bl true) H'
theorem scLw : FnScope ["script", "at", "deck", "turn"] ["script"] (defScope s_law) := ⟨rfl, rfl, rfl, by decide +kernel, rfl, by decide +kernel, by decide +kernel⟩
theorem ok_law (T : Txt K w mg) : FnOk P w K mg base CX0 9 (He.fAd K ("law", none)) (fdAt K (He.fAd K ("law", none))) ["script"] (spLaw K) := by
  refine T.F_law.ok scLw (fun vs H Q E h => ?_) (fun cdv A outer s H vs Q E hr h => ?_)
  · obtain ⟨a, ns, rfl, _⟩ := h
    rfl
  · obtain ⟨a, ns, rfl, hS, hln, kk⟩ := h
    refine ⟨_, PSs.nox (pss_cons (ps_for PassesOwn.never rfl (pi_range1 (by rfl) T.n_range (pa_cons (pe_callB (call_max2 rfl) (by rfl) T.n_max PyProof.Rows.Boot.«max» (pa_cons pe_int (pa_cons (pe_callB (call_min2 rfl) (by rfl) T.n_min PyProof.Rows.Boot.«min» (pa_cons pe_int (pa_cons (pe_callB (r := Evl.rLenS K) call_len_seq (by rfl) T.n_len PyProof.Rows.Boot.«len» (pa_cons (pv 0) pa_nil)) pa_nil))) pa_nil))) pa_nil)) (pg_name (i := 1) scLw.nd rfl (Or.inl rfl)) (pss_cons (ps_set (i := 2) scLw.nd rfl (Or.inl rfl) (pe_call (ok_law_deck T) (hr.mono (by decide)) (by rfl) T.g_law_deck (T.F_law_deck).kp T.b_law_deck .nil pass0 (pa_cons (pv 0) (pa_cons (pv 1) pa_nil))))
      (pss_cons (ps_if (pt_not (pt_val (pe_call (ok_law_bag_right T) (hr.mono (by decide)) (by rfl) T.g_law_bag_right (T.F_law_bag_right).kp T.b_law_bag_right .nil pass0 (pa_cons (pv 2) pa_nil)))) (pss_one (ps_ret pe_bl)) pss_nil)
      (pss_one (ps_for PassesOwn.never rfl (pi_range1 (by rfl) T.n_range (pa_cons pe_int pa_nil)) (pg_name (i := 3) scLw.nd rfl (Or.inl rfl)) (pss_one (ps_if (pt_not (pt_val (pe_call (ok_law_letters_right T) (hr.mono (by decide)) (by rfl) T.g_law_letters_right (T.F_law_letters_right).kp T.b_law_letters_right .nil pass0 (pa_cons (pv 2) pa_nil)))) (pss_one (ps_ret pe_bl)) pss_nil)))))))
      (pss_one (ps_ret pe_bl))), ?_⟩
    obtain ⟨M, hM, hM6⟩ : ∃ M : Int, M = (if (if (((ns.map V.int).length : Nat) : Int) < 4 then (((ns.map V.int).length : Nat) : Int) else 4) > 1 then (if (((ns.map V.int).length : Nat) : Int) < 4 then (((ns.map V.int).length : Nat) : Int) else 4) else 1) ∧ 0 ≤ M ∧ M ≤ 4 := by
      refine ⟨_, rfl, ?_⟩
      constructor
      · split
        · omega
        · omega
      · split
        · split <;> omega
        · omega
    refine ⟨_, rfl, a, _, rfl, .inl hS, _, _, rfl, _, _, rfl, M, by rw [hM], by omega, by omega, ?_⟩
    refine for_range (lo := 0) (n := M.toNat) (fun i σ H' => ∃ (v1 v2 v3 : Option V), σ = [some (.ref a), v1, v2, v3] ∧ Same H H') ⟨_, _, _, rfl, Same.refl _⟩ (fun i σ H0 hi hPv => ?_) (fun σ H0 hPv => kk H0)
    obtain ⟨v1, v2, v3, rfl, sH⟩ := hPv
    have hi6 : i < 8 := by omega
    refine ⟨_, rfl, _, rfl, a, ns, i, by rw [Int.zero_add]; rfl, sH.seq hS, by omega, fun d H1 s1 n1 D1 => ?_⟩
    refine ⟨_, rfl, d, 800000000000, rfl, D1.le (by decide), fun H2 f2 D2 => ⟨true, rfl, iteF ?_⟩⟩
    refine ⟨4, rfl, by decide, by decide, ?_⟩
    refine for_range (lo := 0) (n := 4) (fun j σ H' => ∃ (v1 v3 : Option V), σ = [some (.ref a), v1, some (.ref d), v3] ∧ Same H0 H' ∧ Dk H' d (800000000000 - 1000 * j)) ⟨_, _, rfl, frm_same s1 n1 f2, D2⟩ (fun j σ H4 hj h => ?_) (fun σ H4 h => ?_)
    · obtain ⟨w1, w3, rfl, s4, D4⟩ := h
      exact ⟨_, rfl, d, 800000000000 - 1000 * (j + 1), rfl, D4.le (by omega), fun H5 f5 D5 => ⟨true, rfl, iteF ⟨_, _, rfl, frm_same s4 n1 f5, D5⟩⟩⟩
    · obtain ⟨w1, w3, rfl, s4, D4⟩ := h
      exact ⟨_, _, _, rfl, sH.trans s4⟩
end
end K51
set_option maxRecDepth 100000
set_option maxHeartbeats 0
open PySem PySem.W PySem.Calls PyProof.Rows
set_option maxHeartbeats 0 in
theorem PySem.Challenge.cw_latepresses_k51_whole_bags_by_a_list_holds : PySem.Challenge.rw_latepresses_k51_whole_bags_by_a_list.Holds := by
  w_on; o_law
  refine HandSHeadRun.head_any (r := K51.R) (q := view K51.R.prog [45]) (H := K51.hk) (ob := K51.ob) (M := 20000) (loose := K51.loose) (d := HandSHeadRun.topDef K51.R.prog 45) (kwd := []) K51.ob_eq
    (by kernel_rfl) (fun s => by kernel_rfl) K51.run (by kernel_rfl) (by kernel_rfl) (by kernel_rfl) (by rfl) (by first | assumption | decide +kernel) (by decide +kernel) ⟨rfl, rfl, rfl, rfl, rfl, by decide +kernel⟩ ?hw ?hc
  case hw => w_witness2
  case hc =>
    refine L2.walk_ofE (l := PySem.Challenge.rw_latepresses_k51_whole_bags_by_a_list) (n := 63) (k := 9) (x := "script") (CX := L2.CX0) rfl (by decide) (by kernel_rfl) ⟨rfl, by decide, by decide⟩ ?F (fun _ _ _ _ z => z)
    intro w mg fa h Y G hmg0
    obtain ⟨K, KX, c⟩ := Y
    have hmg : mg ("law" : PySem.Str) = some (.ref fa) := by
      have e : (HandSHeadRun.topDef K51.R.prog 45).name = ("law" : PySem.Str) := by kernel_rfl
      rw [← e]
      exact hmg0
    have T := K51.txt_of KX G c
    have e := hmg.symm.trans T.g_law
    cases e
    exact ⟨K, K51.fdAt K (He.fAd K ("law", none)), K51.spLaw K, KX, fun s v => L2.FunD.bindsA (ps := ["script"]) T.F_law (fun _ _ _ _ _ _ us hl => match us, hl with | [_], _ => rfl) s [v] rfl, fun H a ns hl _ hS => ⟨a, ns, rfl, hS, hl, fun _ => rfl⟩, fun base _ _ => K51.ok_law T⟩
#print axioms PySem.Challenge.cw_latepresses_k51_whole_bags_by_a_list_holds
