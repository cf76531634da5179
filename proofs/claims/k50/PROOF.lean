import PyProof.Rows.All
import Wide.All
import OpenK.AllK
import Wide.FinOn
import HandS.ForExc
import HandS.IsInst
import HandS.Wide
import KE.KExcIs
import HandS.ExcInit
import HandS.Defaults
import HandS.ExcIs
import HandS.ExcField
import KE.GoesEnumKw
import KE.KDictPairs
import HandS.ForMost
import HandS.Walk
import HandS.SortInts
import HandS.Dict
import HandS.More
import HandS.Comp
import HandS.DictComp
import HandS.Evl
import KE.KStateDown
import Wide.Once
import HandS.Head0
import HandS.Head1
import HandS.Head2
import HandS.HeadEnd
import HandS.HeadHook1
import HandS.HeadHook2
import HandS.HeadHook3
import HandS.HeadHook4
import HandS.SetKeys
import HandS.Iter
import HandS.TupAny
import HandS.Style
import HandS.Text
import HandS.Zip
import PySem.Challenge.RW_latepresses_k50_whole_letters_by_the_wor
set_option Elab.async false
set_option linter.all false
set_option maxRecDepth 100000
set_option maxHeartbeats 4000000
/-! Frames, draws, data without lists. -/
namespace KF
open PySem PySem.Spec PyProof.Rows L2
/-! ### data stand while tuples stand -/
def TF (H H' : Hp) : Prop := ∀ b xs, Rd H b (.tup xs) → Rd H' b (.tup xs)
theorem TF.sq {K : PySem.W.Frag} {H H' : Hp} (e : TF H H') {a : Addr} {xs : List V} (h : SqT K H a xs) : SqT K H' a xs := by
  rcases h with h | h
  · exact .inl (e _ _ h)
  · exact .inr h
theorem TF.refl (H : Hp) : TF H H := fun _ _ h => h
theorem TF.trans {H H1 H2 : Hp} (a : TF H H1) (b : TF H1 H2) : TF H H2 := fun c xs h => b c xs (a c xs h)
theorem TF.of_new {H : Hp} {p : Addr} {o : HO} (h : H p = none) : TF H (upd H p o) := fun c xs z => by
  rcases z with z | ⟨u, z⟩
  · exact .inl (by rw [upd_ne (ne_of_none z h)]; exact z)
  · exact .inr ⟨u, by rw [upd_ne (ne_of_none z h)]; exact z⟩
/-- but for one list all stands -/
def Frm (d : Addr) (H H' : Hp) : Prop := ∀ b o, b ≠ d → H b = some o → H' b = some o
theorem Frm.refl (d : Addr) (H : Hp) : Frm d H H := fun _ _ _ h => h
theorem Frm.trans {d : Addr} {H H1 H2 : Hp} (a : Frm d H H1) (b : Frm d H1 H2) : Frm d H H2 := fun c o n h => b c o n (a c o n h)
theorem Frm.of_same {d : Addr} {H H' : Hp} (e : Same H H') : Frm d H H' := fun b o _ h => e b o h
theorem Frm.of_new {d : Addr} {H : Hp} {p : Addr} {o : HO} (h : H p = none) : Frm d H (upd H p o) := fun b u _ z => by
  rw [upd_ne (ne_of_none z h)]
  exact z
theorem Frm.of_upd {d : Addr} {H : Hp} {o : HO} : Frm d H (upd H d o) := fun b u n z => by
  rw [upd_ne n]
  exact z
theorem Frm.tf {d : Addr} {H H' : Hp} {xs : List V} (e : Frm d H H') (h : H d = some (.lst xs)) : TF H H' := fun c ys z => by
  rcases z with z | ⟨u, z⟩
  · exact .inl (e c _ (fun q => by rw [q, h] at z; cases z) z)
  · exact .inr ⟨u, e c _ (fun q => by rw [q, h] at z; cases z) z⟩
theorem new_same {H : Hp} {p : Addr} {o : HO} (h : H p = none) : Same H (upd H p o) := fun b u z => by
  rw [upd_ne (ne_of_none z h)]
  exact z
theorem same_tf {H H' : Hp} (s : Same H H') : TF H H' := fun c zs z => by
  rcases z with z | ⟨u, z⟩
  · exact .inl (s _ _ z)
  · exact .inr ⟨u, s _ _ z⟩
theorem frm_same {H0 H1 H2 : Hp} {d : Addr} (s : Same H0 H1) (n : H0 d = none) (f : Frm d H1 H2) : Same H0 H2 := fun b o z => f b o (ne_of_none z n) (s b o z)
/-- a row of draws at d, good for n more -/
def Deck (H : Hp) (d : Addr) (n : Nat) : Prop := ∃ r m i c : Int, H d = some (.lst [.int r, .int m, .int i, .int c]) ∧ 0 ≤ m ∧ m < 2305843009213693951 ∧ 0 ≤ i ∧ i ≤ 1000 ∧ 0 ≤ c ∧ c + n ≤ 1000000000000
theorem Deck.le {H : Hp} {d : Addr} {n k : Nat} (h : Deck H d n) (hk : k ≤ n) : Deck H d k := by
  obtain ⟨r, m, i, c, h0, h1, h2, h3, h4, h5, h6⟩ := h
  exact ⟨r, m, i, c, h0, h1, h2, h3, h4, h5, by omega⟩
theorem Deck.lst {H : Hp} {d : Addr} {n : Nat} (h : Deck H d n) : ∃ xs, H d = some (.lst xs) := by
  obtain ⟨r, m, i, c, h0, _⟩ := h
  exact ⟨_, h0⟩
theorem Deck.keep {H H' : Hp} {d : Addr} {n : Nat} (h : Deck H d n) (e : H' d = H d) : Deck H' d n := by
  obtain ⟨r, m, i, c, h0, h1⟩ := h
  exact ⟨r, m, i, c, by rw [e]; exact h0, h1⟩
theorem Deck.same {H H' : Hp} {d : Addr} {n : Nat} (h : Deck H d n) (e : Same H H') : Deck H' d n := by
  obtain ⟨r, m, i, c, h0, h1⟩ := h
  exact ⟨r, m, i, c, e _ _ h0, h1⟩
theorem small_ab {i : Int} {n : Nat} (h0 : 0 ≤ i) (h1 : i < 2 ^ n) : i.natAbs < 2 ^ n := by
  have e : ((i.natAbs : Nat) : Int) = i := Int.natAbs_of_nonneg h0
  have h2 : ((i.natAbs : Nat) : Int) < ((2 ^ n : Nat) : Int) := by
    rw [e, Int.natCast_pow]
    exact h1
  exact Int.ofNat_lt.mp h2
theorem pow63 : (2 : Int) ^ 63 = 9223372036854775808 := by decide
theorem pow20 : (2 : Int) ^ 20 = 1048576 := by decide
theorem pow40 : (2 : Int) ^ 40 = 1099511627776 := by decide
theorem pow122 : (2 : Nat) ^ 122 = 5316911983139663491615228241121378304 := by decide
theorem pow120 : (2 : Nat) ^ (40 + 40 + 40) = 1329227995784915872903807060280344576 := by decide
theorem ne_int {i j : Int} (h : ¬ (V.int i = V.int j)) : i ≠ j := fun e => h (by rw [e])
theorem ty_tup {K : PySem.W.Frag} {H : Hp} {a : Addr} {xs : List V} (h : SqT K H a xs) : TyX K H (.ref a) (.type "tuple") := by
  rcases h with (h | ⟨o, h⟩) | ⟨o, _, _, h, hc, _⟩
  · exact .base (.tup h)
  · exact .fTuple h
  · exact .kTuple h hc
section
variable {K : PySem.W.Frag} {H : Hp}
theorem dpa_len : ∀ {vs : List V} {ds : List PyData}, DpAll K H vs ds → vs.length = ds.length
  | [], _, h => by cases h; rfl
  | v :: vs, _, h => by
    cases h with
    | cons _ b => rw [List.length_cons, List.length_cons, dpa_len b]
theorem dpa_get : ∀ {vs : List V} {ds : List PyData} {i : Nat} {e : PyData}, DpAll K H vs ds → ds[i]? = some e → ∃ v, vs[i]? = some v ∧ Dp K H v e
  | [], _, i, e, h, he => by cases h; cases he
  | v :: vs, _, 0, e, h, he => by
    cases h with
    | cons a _ => cases he; exact ⟨v, rfl, a⟩
  | v :: vs, _, i + 1, e, h, he => by
    cases h with
    | cons _ b => exact dpa_get (vs := vs) (i := i) b he
end
/-! ### x is True, x is not True, x any value -/
def rIsT (c : Bool) : R2 := fun x y H Q => y = .bl c ∧ Q (.bl (decide (x = .bl c))) H
theorem plain_bl (c : Bool) {x : V} {u : Value} (r : RelV x u) : plainIs u (.bool c) = true := by
  cases x <;> first | (cases r; rfl) | (obtain ⟨t, rfl⟩ := r; rfl)
section
variable {X : Cx}
theorem op_isT (c : Bool) : OpR X (compareOp .Is) (rIsT c) := by
  intro pins s σ H x y v u Q I rx ry h
  obtain ⟨rfl, q⟩ := h
  cases (show u = Value.bool c from ry)
  by_cases e : x = .bl c
  · subst e
    cases (show v = Value.bool c from rx)
    exact wpAny_is_self (plain_bl c rx) ⟨.bl true, H, I, rfl, by simpa using q⟩
  · refine wpAny_is_other (plain_bl c rx) (fun z => e ?_) ⟨.bl false, H, I, rfl, by simpa [e] using q⟩
    subst z
    exact RelV.inj rx rfl
theorem op_notT (c : Bool) : OpR X (compareOp .IsNot) (fun x y H Q => y = .bl c ∧ Q (.bl (!decide (x = .bl c))) H) := by
  intro pins s σ H x y v u Q I rx ry h
  obtain ⟨rfl, q⟩ := h
  cases (show u = Value.bool c from ry)
  by_cases e : x = .bl c
  · subst e
    cases (show v = Value.bool c from rx)
    exact wpAny_isNot_self (plain_bl c rx) ⟨.bl false, H, I, rfl, by simpa using q⟩
  · refine wpAny_isNot_other (plain_bl c rx) (fun z => e ?_) ⟨.bl true, H, I, rfl, by simpa [e] using q⟩
    subst z
    exact RelV.inj rx rfl
end

/-! ### data without lists and dicts -/
mutual
def NL : PyData → Prop
  | .none => True
  | .bool _ => True
  | .int _ => True
  | .str _ => True
  | .list _ => False
  | .tuple ds => NLs ds
  | .dict _ => False
def NLs : List PyData → Prop
  | [] => True
  | d :: ds => NL d ∧ NLs ds
end
section
variable {K : PySem.W.Frag} {H H' : Hp}
mutual
theorem dp_nl (e : TF H H') : ∀ (d : PyData) (v : V), NL d → Dp K H v d → Dp K H' v d
  | .none, _, _, h => by cases h; exact .non
  | .bool _, _, _, h => by cases h; exact .bl _
  | .int _, _, _, h => by cases h; exact .int _
  | .str _, _, _, h => by cases h; exact .str _
  | .list _, _, r, _ => r.elim
  | .dict _, _, r, _ => r.elim
  | .tuple ds, _, r, h => by
    cases h with
    | tup a b => exact .tup (e.sq a) (dpa_nl e ds _ r b)
theorem dpa_nl (e : TF H H') : ∀ (ds : List PyData) (vs : List V), NLs ds → DpAll K H vs ds → DpAll K H' vs ds
  | [], _, _, h => by cases h; exact .nil
  | d :: ds, _, r, h => by
    cases h with
    | cons a b => exact .cons (dp_nl e d _ r.1 a) (dpa_nl e ds _ r.2 b)
end
end
end KF
set_option maxRecDepth 100000
set_option maxHeartbeats 4000000
/-! A caught error that is kept under a name behind its try. -/
namespace KD
open PySem PySem.Spec PyProof.Rows L2
/-- a caught error that is kept: its class, its dict -/
def CxO (cl : Value) (dx : Option Addr) (ae : Addr) : HO := .ext fun hp => ∃ (ob : Obj) (fv : Array Value), hp.get? ae = some ob ∧ Zc cl dx ob ∧ ob.data = .fields fv
theorem cxo_ok {P : Program} {w : World} {G : Hp} {hp : Heap} {ae : Addr} {cl : Value} {dx : Option Addr} {ob : Obj} {fv : Array Value} (there : hp.get? ae = some ob) (zz : Zc cl dx ob) (dd : ob.data = .fields fv) : ObjOk P w G hp ae (CxO cl dx ae) :=
  ⟨⟨ob, fv, there, zz, dd⟩, ⟨ob, there⟩, fun _ _ ⟨o1, f1, y1, y2⟩ kp => ⟨o1, f1, kp o1 y1, y2⟩⟩
section
variable {X : Cx} {pins : List (Addr × Obj)} {σ : L2.St} {G : Hp} {s : Shared}
theorem track {ae : Addr} {cl : Value} {dx : Option Addr} {ob : Obj} {fv : Array Value} (J : Inv X pins σ G s) (there : s.heap.get? ae = some ob) (zz : Zc cl dx ob) (dd : ob.data = .fields fv) (na : G ae = none)
    (n0 : X.s_0.heap.get? ae = none) (nL : ae ≠ X.env.locals) (np : ∀ p ∈ X.pn ++ pins, p.1 ≠ ae) : Inv X pins σ (upd G ae (CxO cl dx ae)) s := by
  have ne0 : ∀ b o, X.s_0.heap.get? b = some o → b ≠ ae := fun b o eb z => by
    rw [z, n0] at eb
    cases eb
  refine ⟨J.ok, J.os, J.bare, ⟨J.base.keep, J.base.slot, fun b o eb n hx => ?_, J.base.there, fun b xs t => ?_, fun b o u t => ?_, fun b ps t => ?_⟩, J.loc, J.cell, ?_, fun x c ec => ?_, fun p hp => ?_, fun b u eb => ?_, J.len⟩
  · rw [upd_ne (ne0 b o eb)]
    exact J.base.free b o eb n hx
  · have y := J.base.tups b xs t
    rw [upd_ne (ne_of_none y na)]
    exact y
  · have y := J.base.frzs b o u t
    rw [upd_ne (ne_of_none y na)]
    exact y
  · obtain ⟨m, y⟩ := J.base.tbls b ps t
    exact ⟨m, by rw [upd_ne (ne_of_none y na)]; exact y⟩
  · rw [upd_ne (Ne.symm nL)]
    exact J.free
  · have nc : c ≠ ae := fun z => by
      obtain ⟨v, o, ho, hd⟩ := J.cell x c ec
      rw [z, there] at ho
      cases ho
      rw [dd] at hd
      cases hd
    rw [upd_ne nc]
    exact J.freeC x c ec
  · obtain ⟨q1, q2, q3, q4, q5⟩ := J.pin p hp
    exact ⟨q1, by rw [upd_ne (np p hp)]; exact q2, q3, q4, q5⟩
  · by_cases hb : b = ae
    · subst hb
      rw [upd_same] at eb
      cases eb
      exact cxo_ok there zz dd
    · rw [upd_ne hb] at eb
      exact (J.hok b u eb).stay (fun _ _ _ q => q) (fun c q => by rw [upd_ne (ne_of_none q na)]; exact q) fun c xs q => by rw [upd_ne (ne_of_none q na)]; exact q
end
/-- the clause's wish, the error kept behind it -/
def wKeep (K : PySem.W.Frag) (c : Value) (i : Nat) (ts : Addr → Value → Option Addr → TS) (Wo : WX) (D : Ends) : WX := fun cl dx σ G =>
  ∃ b, PySem.W.exmOne K cl c = some b ∧ (b = true → ∀ ae, G ae = none → ts ae cl dx { nx := fun σ' G' => D.nx (σ'.set i none) (upd G' ae (CxO cl dx ae)), rt := fun _ _ => False, bk := fun _ _ => False, ct := fun _ _ => False } (σ.set i (some (.ref ae))) G) ∧ (b = false → Wo cl dx σ G)
section
variable {X : Cx} {x n : Str} {c : Value} {i : Nat} {body su : List Stmt} {b1 : Stmt} {np pa pb : Pos} {tb : WX → TS} {ts : Addr → Value → Option Addr → TS} {Wo : WX}
theorem ps_try_keep (stk : X.stack = X.env :: X.outer) (fr : X.env.frame = some X.env.locals) (hex : X.ex = []) (nd : X.N.Nodup) (ni : X.N[i]? = some n) (lo : X.env.kindOf n = some .local) (nm : Names X x c) (tk : Takes X Wo)
    (hb : ∀ (W : WX) (pn : List (Addr × Obj)) (xe : Value → Shared → Prop), Takes (X.tr pn xe) W → PassesOwn (model X.prog X.w) X.A X.env xe → PSs (X.tr pn xe) body (tb W))
    (hsu : ∀ (ae : Addr) (ob : Obj) (cl : Value) (dx : Option Addr) (pn : List (Addr × Obj)), Zc cl dx ob → (∃ vs, ob.data = .fields vs) → PSs (X.suite ae ((ae, ob) :: pn)) (b1 :: su) (ts ae cl dx)) :
    PS X (.Try body [.ExceptHandler (some (.Name x np)) (some n) (b1 :: su) pb] [] [] pa) (fun D σ G => tb (wKeep X.K c i ts Wo D) D σ G) := by
  refine ⟨fun pins s σ G D I h => ?_⟩
  have ok := I.ok
  have frs2 : X.A.frames = some (X.env :: X.outer) := by rw [ok.frames, stk]
  refine wpAny_Try_except ?_
  have start := (hb (wKeep X.K c i ts Wo D) (X.pn ++ pins) (fun e s1 => wpAny (model X.prog X.w) X.A (noteFrame e X.env) (fun _ s2 => wpAny (model X.prog X.w) X.A (setFlight e none) (fun _ s3 =>
    wpAny (model X.prog X.w) X.A (handleBy e X.env [.ExceptHandler (some (.Name x np)) (some n) (b1 :: su) pb]) (SP X pins D) X.xe s3) X.xe s2) X.xe s1) (fun u s' xx => ?caught) PassesOwn.looking).run [] s σ G D (I.toTry _) h
  · refine wpAny_mono start (fun f t1 hsp => ?_) (fun e t1 he => he)
    cases f with
    | next =>
      obtain ⟨σ1, G1, J1, q⟩ := hsp
      exact wpAny_execs_nil ⟨σ1, G1, J1.ofTry ok, q⟩
    | brk =>
      obtain ⟨σ1, G1, J1, q⟩ := hsp
      exact ⟨σ1, G1, J1.ofTry ok, q⟩
    | cont =>
      obtain ⟨σ1, G1, J1, q⟩ := hsp
      exact ⟨σ1, G1, J1.ofTry ok, q⟩
    | ret u =>
      obtain ⟨v, σ1, G1, J1, rr, q⟩ := hsp
      exact ⟨v, σ1, G1, J1.ofTry ok, rr, q⟩
  case caught =>
    obtain ⟨ae, Bs, sM, pins1, σ1, G1, cl, dx, rfl, J0, nb, up, sky0, na, os, ag, b, hb1, hyes, hno⟩ := xx
    have J : Inv X pins σ1 G1 sM := J0.ofTry ok
    have sky1 : Sky Bs (X.env :: X.outer) ae (Zc cl dx) X.env.locals s'.heap := by rw [← stk]; exact sky0
    show wpAny (model X.prog X.w) X.A (noteFrame (.ref ae) X.env) _ _ _
    refine Sky.land Zc.steady frs2 fr sky1 fun h3 fl3 up3 => ?_
    have J3 : Inv X pins σ1 G1 { s' with heap := h3 } := J.landed nb fl3.1 (up.trans up3) os ag
    obtain ⟨o3, v3, at3, z3, d3⟩ := fl3.there
    have apart : ∀ {hp : Heap} {o : Obj} {vs : Array Value}, hp.FunFrames Bs (X.env :: X.outer) → hp.get? ae = some o → o.data = .fields vs → ae ∉ frs (X.env :: X.outer) := fun {hp o vs} ff e dd hm => by
      obtain ⟨_, o', e', hnf⟩ := ff.mem hm
      rw [e] at e'
      cases e'
      exact hnf _ dd
    have nfr := apart fl3.2.2.1 at3 d3
    have inFr : ∀ p : Addr, p ∈ frs (X.env :: X.outer) → p = X.env.locals ∨ p ∈ X.fs := fun p hm => by
      obtain ⟨ev, hev, q⟩ := List.mem_filterMap.mp hm
      rcases List.mem_cons.mp hev with z | z
      · rw [z, fr] at q
        exact .inl (Option.some.inj q).symm
      · exact .inr (List.mem_filterMap.mpr ⟨ev, z, q⟩)
    have nL : ae ≠ X.env.locals := fun z => nfr (List.mem_filterMap.mpr ⟨X.env, List.mem_cons_self, by rw [fr, z]⟩)
    have nF : ae ∉ X.fs := fun hm => by
      obtain ⟨ev, hev, q⟩ := List.mem_filterMap.mp hm
      exact nfr (List.mem_filterMap.mpr ⟨ev, List.mem_cons_of_mem _ hev, q⟩)
    have notB : Bs.get? ae = none := fl3.2.1
    have n0 : X.s_0.heap.get? ae = none := by
      cases e : X.s_0.heap.get? ae with
      | none => rfl
      | some o =>
        obtain ⟨o2, e2⟩ := J.base.there ae o e (by rw [hex]; exact fun z => nomatch z)
        have e3 := nb ae o2 e2 (by show ae ∉ frs X.stack; rw [stk]; exact nfr)
        rw [notB] at e3
        cases e3
    have npin : ∀ p ∈ X.pn ++ pins, p.1 ≠ ae := fun p hp z => by
      obtain ⟨q1, q2, q3, q4, q5⟩ := J.pin p hp
      have e3 := nb p.1 p.2 q1 (by
        show p.1 ∉ frs X.stack
        rw [stk]
        exact fun hm => (inFr p.1 hm).elim q3 q4)
      rw [z, notB] at e3
      cases e3
    have S3 := J3.suite at3 d3 na nL nF
    refine wpAny_handleBy_cons (codeAny_handlers_test ?_) (fun z => by cases z)
    have LT : PySem.W.Looks (model X.prog X.w) h3 (typeOf (.ref ae)) cl := fun A Q E s k q => wpAny_typeOf_ref (k _ _ at3) (by rw [z3.1]; exact q)
    have LK := PySem.W.exm_one (M := model X.prog X.w) J3.kIn LT hb1
    have test : ∀ {Q : Value → Shared → Prop} {E : Value → Shared → Prop}, Q c { s' with heap := h3 } → wpAny (model X.prog X.w) (X.A.mark (some (.ref ae))) (eval (.Name x np) X.env) Q E { s' with heap := h3 } := fun {Q E} q => by
      obtain ⟨g1, g2, g3 | ⟨g3, g4, g5⟩⟩ := nm
      · exact ld_glob (X := X.suite ae ((ae, o3) :: (X.pn ++ pins))) S3 g1 g3 q g2
      · exact ld_blt (X := X.suite ae ((ae, o3) :: (X.pn ++ pins))) S3 g1 g3 g4 q g5 g2
    refine test (LK.here ?_)
    cases b with
    | true =>
      refine codeAny_handlers_suite_as (HandSPX.lands_againZ fl3 fun h4 fl4 up4 => ?_)
      have J4 : Inv X pins σ1 G1 { s' with heap := h4 } := J.landed nb fl4.1 ((up.trans up3).trans up4) os ag
      obtain ⟨o4, v4, at4, z4, d4⟩ := fl4.there
      have S4 := J4.suite at4 d4 na nL nF
      refine store_ok (X := X.suite ae ((ae, o4) :: (X.pn ++ pins))) (v := .ref ae) S4 nd ni (.inl lo) rfl (fun s5 S5 => ?_) (.inr lo)
      refine wpAny_mono ((hsu ae o4 cl dx (X.pn ++ pins) z4 ⟨_, d4⟩).run [] s5 _ G1 _ S5 (hyes rfl ae na)) (fun f s6 hsp => ?_) (fun _ _ z => False.elim z)
      cases f with
      | next =>
        obtain ⟨σ6, G6, S6, q6⟩ := hsp
        obtain ⟨p1, p2, p3, p4, p5⟩ := S6.pin (ae, o4) (List.mem_append_left _ List.mem_cons_self)
        have T6 := track (S6.unsuite ok) p1 z4 d4 p2 n0 nL npin
        exact gone_ok T6 nd ni lo fun s7 J7 => ⟨_, _, J7, q6⟩
      | brk =>
        obtain ⟨σ6, G6, S6, q6⟩ := hsp
        exact q6.elim
      | cont =>
        obtain ⟨σ6, G6, S6, q6⟩ := hsp
        exact q6.elim
      | ret u =>
        obtain ⟨v6, σ6, G6, S6, r6, q6⟩ := hsp
        exact q6.elim
    | false =>
      show wpAny _ X.A (handleBy (.ref ae) X.env []) _ _ _
      refine wpAny_handleBy_nil ?_
      obtain ⟨k1, k2, k3, o5, v5, T5, oT, ts', he5, hz5, hd5, h5, hr5⟩ := id fl3
      unfold PySem.passOn
      refine wpAny_bind (wpAny_field he5 hd5 h5 ?_)
      rw [if_neg (show ¬ ((Value.ref T5 == Value.none) = true) from by simp)]
      have fin2 : wpAny (model X.prog X.w) X.A (setFlight (.ref ae) X.env.frame) (fun _ s4 => wpAny (model X.prog X.w) X.A (throw (.ref ae) : Sem Flow) (SP X pins D) X.xe s4) X.xe { s' with heap := h3 } := by
        rw [fr]
        refine HandSPX.setFlight_upZ fl3 fun h4 hh4 up4 => wpAny_throw (tk _ _ ?_)
        exact ⟨ae, Bs, sM, pins, σ1, G1, cl, dx, rfl, J, nb, (up.trans up3).trans up4, .inr (.inr (by rw [stk]; exact hh4)), na, os, ag, hno rfl⟩
      first
        | exact wpAny_bind (wpAny_pure (wpAny_bind fin2))
        | exact wpAny_bind fin2
end
/-! ### what is asked of it -/
def rIsC (K : PySem.W.Frag) : List V → Hp → VK → Prop := fun xs G Q => ∃ (D ae dx : Addr) (c : V) (cv : Value) (b : Bool) (fs : List (Str × V)), xs = [.ref ae, c] ∧ ExcC K D ∧ G ae = some (CxO (.ref D) (some dx) ae) ∧ G dx = some (.xd fs) ∧ ClsV c cv ∧
  PySem.W.kitOne K (.ref D) cv = some b ∧ Q (.bl b) G
def rIsCT (K : PySem.W.Frag) : List V → Hp → VK → Prop := fun xs G Q => ∃ (D ae dx tp : Addr) (cs : List V) (us : List Value) (b : Bool) (fs : List (Str × V)), xs = [.ref ae, .ref tp] ∧ ExcC K D ∧ G ae = some (CxO (.ref D) (some dx) ae) ∧ G dx = some (.xd fs) ∧ G tp = some (.tup cs) ∧
  Paired ClsV cs us ∧ PySem.W.kitAny K (.ref D) us = some b ∧ Q (.bl b) G
section
variable {X : Cx} {pins : List (Addr × Obj)} {σ : L2.St} {G : Hp} {s : Shared}
theorem inst_kept {D ae dx : Addr} {fs : List (Str × V)} (J : Inv X pins σ G s) (ha : G ae = some (CxO (.ref D) (some dx) ae)) (hd : G dx = some (.xd fs)) :
    ∃ ob od, PySem.W.InstAt s.heap ae ob D (some od) ∧ ∀ n, ∃ m, PySem.W.lookIn n od = some m ∧ RelO (fs.lookup n) m := by
  obtain ⟨⟨ob, fv, g1, g2, g3⟩, _⟩ := J.hok ae _ ha
  have hx : ObjOk X.prog X.w G s.heap dx (.xd fs) := J.hok dx _ hd
  obtain ⟨mA, hns, hr⟩ := hx
  obtain ⟨od, hod, look⟩ := lookIn_ns hns
  exact ⟨ob, od, ⟨g1, g2.1, by unfold PySem.W.notCls; rw [g3] <;> rfl, by rw [g2.2]; exact hod⟩, fun n => ⟨mA n, look n, hr n⟩⟩
theorem call_isC : CallR X (.builtin "isinstance") (rIsC X.K) := by
  intro pins s σ G xs us Q I r h
  obtain ⟨D, ae, dx, c, cv, b, fs, rfl, C, ha, hd, hcv, e, q⟩ := h
  obtain ⟨v1, v2, rfl, q1, q2⟩ := vals2 r
  have e2 := hcv.eq q2
  subst e2
  cases (show v1 = Value.ref ae from q1)
  obtain ⟨ob, od, J, _⟩ := inst_kept I ha hd
  obtain ⟨cd, hcd, _⟩ := PySem.W.any_some C.hd
  exact PySem.W.kia_one (PySem.W.kitx_exc (by rw [hcd]; rfl) C.hg C.hk C.hs C.ha C.hn C.ht C.hm) I.kIn J e (fun z => nomatch z) fun tk => ⟨.bl b, G, I.tok tk, rfl, q⟩
theorem call_isCT : CallR X (.builtin "isinstance") (rIsCT X.K) := by
  intro pins s σ G xs us Q I r h
  obtain ⟨D, ae, dx, tp, cs, ws, b, fs, rfl, C, ha, hd, hT, k, e, q⟩ := h
  obtain ⟨v1, v2, rfl, q1, q2⟩ := vals2 r
  cases (show v2 = Value.ref tp from q2)
  cases (show v1 = Value.ref ae from q1)
  obtain ⟨ob, od, J, _⟩ := inst_kept I ha hd
  obtain ⟨cd, hcd, _⟩ := PySem.W.any_some C.hd
  obtain ⟨_, its, rv, o, g1, g2, n, g3⟩ := (show ObjOk X.prog X.w G s.heap tp (.tup cs) from I.hok tp _ hT)
  have e3 := ClsV.all k rv
  subst e3
  obtain ⟨oc, od2, dt, sl⟩ := o
  simp only at g2 g3
  subst g2 g3
  exact PySem.W.kia_tup (PySem.W.kitx_exc (by rw [hcd]; rfl) C.hg C.hk C.hs C.ha C.hn C.ht C.hm) I.kIn J g1 e (fun z => nomatch z) fun tk => ⟨.bl b, G, I.tok tk, rfl, q⟩
/-- e.f, e the kept error -/
def tXk (K : PySem.W.Frag) (f : Str) (te : TE) : TE := fun σ G Q => te σ G fun y G1 => ∃ (ae C dx : Addr) (fs : List (Str × V)) (v : V), y = .ref ae ∧ G1 ae = some (CxO (.ref C) (some dx) ae) ∧ XfC K C ∧ PySem.W.findIn K (.ref C) f = some none ∧ G1 dx = some (.xd fs) ∧ fs.lookup f = some v ∧ Q v G1
theorem pe_xk {e : Expr} {te : TE} {pos : Pos} {f : Str} (he : PE X e te) (hb : attributeBase e f X.env (eval e X.env) = eval e X.env := by rfl) : PE X (.Attribute e f pos) (tXk X.K f te) := by
  refine ⟨fun pins s σ G Q I h => ?_⟩
  refine attr_of hb (thn (he.run pins s σ G _ I h) fun u s1 hh => ?_)
  obtain ⟨y, G1, I1, rx, ae, C, dx, fs, v, ex, ha, T, hno, hd, l, q⟩ := hh
  subst ex
  obtain rfl : u = Value.ref ae := rx
  obtain ⟨ob, od, J, look⟩ := inst_kept I1 ha hd
  obtain ⟨m, hl, hr⟩ := look f
  obtain ⟨u2, hu, ru⟩ := RelO.some_of (v := v) (o := m) (by rw [← l]; exact hr)
  exact HandSPX.exc_get I1.kIn J T.ga T.gg T.exC (PySem.W.findObj_own T.hdC hno rfl (by rw [hl, hu])) (handed_of ru) ⟨v, G1, I1.tok _, ru, q⟩
end
end KD
set_option maxRecDepth 100000
set_option maxHeartbeats 4000000
/-! enumerate of a tuple, from any number on; sorted of a dict of any size; dict of a tuple of pairs. -/
namespace PySem
open Sem (wp)
set_option maxHeartbeats 1000000 in
theorem kd_meets_enum1 {v : Value} {o : Obj} {Hv : Heap → Prop} (B : Begins v o Hv) :
    Meets (Builtin.«enumerate.__new__» ⟨[.type "enumerate", v], []⟩) (fun _ R s => Hv s.heap ∧
      R (.ok (.ret (.ref (s.heap.push o).objs.size))) { s with heap := (s.heap.push o).push { cls := .type "enumerate", data := .fields #[.none, .bool false, .ref s.heap.objs.size, rawInt 0, .none, .none] } }) :=
  .of_wp fun prog w A R s hh => by
    obtain ⟨hp, g, d, tk, os⟩ := s
    obtain ⟨v1, hh⟩ := hh
    have hsub := sub_enumerate
    have start : ∀ {A' : Around} {E : Value → Shared → Prop} {Q : Value → Shared → Prop}, Q (.ref hp.objs.size) ⟨hp.push o, g, d, tk, os⟩ → wpAny (model prog w) A' (pyIter v) Q E ⟨hp, g, d, tk, os⟩ :=
      fun q => B.iter prog w _ _ ⟨hp, g, d, tk, os⟩ _ v1 q
    wp_walk using start
    refine wpAny_stack_any fun st => wpAny_pure ?_
    split
    · rename_i c _ _ _ _ _
      cases (c == Value.type "enumerate")
      · wp_walk using start
        exact ⟨_, rfl, hh⟩
      · wp_walk using start
        exact ⟨_, rfl, hh⟩
    · wp_walk using start
      exact ⟨_, rfl, hh⟩
section
variable {prog : Program} {w : World} {A : Around} {E : Value → Shared → Prop} {s : Shared}
theorem kd_enum1 {v : Value} {o : Obj} {Hv : Heap → Prop} {Q : Value → Shared → Prop} (B : Begins v o Hv) (v1 : Hv s.heap)
    (hq : ∀ h', IsEnum h' (s.heap.objs.size + 1) s.heap.objs.size 0 .none → h'.get? s.heap.objs.size = some o → h'.objs.size = s.heap.objs.size + 2 →
      (∀ b o, s.heap.get? b = some o → h'.get? b = some o) → Q (.ref (s.heap.objs.size + 1)) { s with heap := h' }) :
    wpAny (model prog w) A (call (.type "enumerate") [v]) Q E s := by
  refine callType_new F.called_enumerate (by decide) (F.typeCall_enumerate_1 _) (F.newCall_enumerate_1 _) (fun ob => F.args_object_init_2 ob _) F.entry_enumerate_new
    (kd_meets_enum1 B) ⟨v1, ?_⟩
  have hz : (s.heap.push o).objs.size = s.heap.objs.size + 1 := Heap.size_push ..
  show _ ∧ _
  rw [hz]
  have he : IsEnum ((s.heap.push o).push { cls := .type "enumerate", data := .fields #[.none, .bool false, .ref s.heap.objs.size, rawInt 0, .none, .none] }) (s.heap.objs.size + 1) s.heap.objs.size 0 .none := by
    have := Heap.get?_push_size (s.heap.push o) (o := { cls := .type "enumerate", data := .fields #[.none, .bool false, .ref s.heap.objs.size, rawInt 0, .none, .none] }) rfl
    rw [hz] at this
    exact this
  exact ⟨⟨_, he, rfl⟩, hq _ he (Heap.get?_push_of_some _ (Heap.get?_push_size _ B.free)) (by rw [Heap.size_push, hz]) fun b o x => Heap.get?_push_of_some _ (Heap.get?_push_of_some _ x)⟩
end
end PySem
namespace KD
open PySem PySem.Spec PyProof.Rows L2
/-- the tuple at a, each item behind its number, from c on, in a new pair -/
def Ity (K : PySem.W.Frag) (a : Addr) (c : Int) : It :=
  ⟨fun i G => ∃ (xs : List V) (x : V), SqT K G a xs ∧ xs[i]? = some x, fun i G v G' => ∃ t x, v = .ref t ∧ G t = none ∧ G' = upd G t (.tup [.int (c + (i : Nat)), x]) ∧ ∀ xs, SqT K G a xs → xs[i]? = some x, fun i G => ∃ xs : List V, SqT K G a xs ∧ xs.length ≤ i⟩
theorem turn_ity {P : Program} {w : World} {K : PySem.W.Frag} {elts : List Expr} {kk : Nat} {tpos : Pos} (a e it : Addr) (c : Int) :
    Turn P w K (.Tuple elts kk tpos) (Ity K a c) [e, it] e (fun i h => (∃ old, IsEnum h e it (c + ((i : Nat) : Int)) old) ∧ h.IsTupleIter it a i ∧ e ≠ it) where
  mem := by simp
  obj := fun i h st b hb => by
    obtain ⟨⟨old, he⟩, ⟨o, ho, _, hd⟩, _⟩ := st
    have z : b = e ∨ b = it := by simpa using hb
    rcases z with z | z
    · rw [z]
      exact ⟨_, he, fun v q => nomatch q⟩
    · rw [z]
      exact ⟨o, ho, fun v q => by rw [hd] at q; cases q⟩
  keep := fun i h h' st k => let ⟨⟨old, he⟩, hi, hne⟩ := st; ⟨⟨old, k e (by simp) _ he⟩, hi.at fun o q => k it (by simp) o q, hne⟩
  item := by
    intro X hP hw hK hc i pins s σ G E I hf st hg
    subst hP hw hK
    obtain ⟨⟨old, he⟩, hit, hne⟩ := st
    obtain ⟨xs, x, hq, hx⟩ := hg
    obtain ⟨its, rv, p, hz⟩ := I.tuple hq
    obtain ⟨u, hu, ru⟩ := rv.get hx
    have p2 : s.heap.IsTuple a its.toArray := p
    obtain ⟨oa, g1, g2, n1, g3⟩ := id p2
    obtain ⟨oi, i1, i2, i3⟩ := id hit
    have nai : a ≠ it := fun z => by
      rw [z, i1] at g1
      cases g1
      rw [i3] at g3
      cases g3
    have nea : e ≠ a := fun z => by
      have he2 := he
      unfold IsEnum at he2
      rw [z, g1] at he2
      cases he2
      cases g3
    have hel : e < s.heap.objs.size := Heap.lt_size he
    have hil : it < s.heap.objs.size := Heap.lt_size i1
    have D := Draws.tuple (prog := X.prog) (w := X.w) (A := X.A.in1) (I.ok.hd hc) it a nai its.toArray
    have hin : i < its.toArray.size := by
      have z : i < its.length := (List.getElem?_eq_some_iff.mp hu).1
      simpa using z
    refine wpAny_pyNext_enum_itemC D he ⟨hit, p2⟩ hin hne (by simp [hne, nea]) fun y h' tk hy ho hst' hT hsz hk => ?_
    have hy2 : y = u := by
      have z : its[i]? = some y := by simpa using hy
      rw [hu] at z
      exact (Option.some.inj z).symm
    subst hy2
    refine ⟨_, rfl, wpAny_letOwnedTupleGo_enum (s := { s with heap := h', toks := tk + 1 }) ho fun h2 he2 sb => ?_⟩
    have hT2 : h2.get? s.heap.objs.size = some { cls := .type "tuple", data := .seq #[.int (c + ((i : Nat) : Int)) tk, y] } := (sb.2 _ (Nat.ne_of_gt hel)).trans hT
    have new : ObjOk X.prog X.w (upd G s.heap.objs.size (.tup [.int (c + ((i : Nat) : Int)), x])) h2 s.heap.objs.size (.tup [.int (c + ((i : Nat) : Int)), x]) :=
      ⟨by show 2 ≤ sizeLine; decide, [.int (c + ((i : Nat) : Int)) tk, y], .cons ⟨_, rfl⟩ (.cons ru .nil), ⟨_, hT2, rfl, _, rfl⟩⟩
    have I1 : Inv X pins σ (upd G s.heap.objs.size (.tup [.int (c + ((i : Nat) : Int)), x])) { s with heap := h2, toks := tk + 1 } :=
      I.turnedNew (ch := [e, it]) (fun b ob hb q => (sb.2 b (fun z => hb (by simp [z]))).trans (hk b ob (fun z => hb (by simp [z])) (fun z => hb (by simp [z])) q)) hf (Nat.le_refl _) new
    refine ⟨.ref s.heap.objs.size, _, I1, rfl, ⟨_, x, rfl, I.hok.fresh (Nat.le_refl _), rfl, fun ys hys => by rw [I.tuple_inj hys hq]; exact hx⟩, ⟨⟨y, ?_⟩, hst'.1.at fun o q => (sb.2 it (Ne.symm hne)).trans q, hne⟩, fun b hb => ?_⟩
    · have e1 : c + ((i + 1 : Nat) : Int) = c + (i : Int) + 1 := by omega
      rw [e1]
      exact he2
    · have hb2 : b < s.heap.objs.size := by
        have z : b = e ∨ b = it := by simpa using hb
        rcases z with z | z
        · rw [z]; exact hel
        · rw [z]; exact hil
      rw [upd_ne (Nat.ne_of_lt hb2)]
      exact (hf b hb).1
  done := by
    intro X hP hw hK hc i pins s σ G E I hf st hg
    subst hP hw hK
    obtain ⟨⟨old, he⟩, hit, hne⟩ := st
    obtain ⟨xs, hq, hx⟩ := hg
    obtain ⟨its, rv, p, hz⟩ := I.tuple hq
    have p2 : s.heap.IsTuple a its.toArray := p
    obtain ⟨oa, g1, g2, n1, g3⟩ := id p2
    obtain ⟨oi, i1, i2, i3⟩ := id hit
    obtain ⟨f0, f1, f2, f3, f4, f5⟩ := hf it (by simp)
    have hl := rv.length
    have hit2 := hit
    have ends : ∀ h', Heap.ExtBut it s.heap h' → (none : Option Value) = none ∧ Inv X pins σ G { s with heap := h' } := fun h' eb => ⟨rfl, I.turned (t' := s.toks) (fun b o hb q => eb b o hb q) f0 f1 f3 f4 f5⟩
    have hT : s.TypeIs (.ref e) "enumerate" := ⟨_, he, rfl⟩
    unfold pyNext
    refine wpAny_bind (wpAny_attempt (wpAny_callSpecial?_slot (name := Str.ofString "__next__") hT F.slot_enumerate_next (wpAny_call_entry F.slot_enumerate_next hT F.entry_enumerate_next ?_ (F.args_enumerate_next_1 _))))
    show wpAny _ _ (field (.ref e) 2 >>= _) _ _ _
    refine wpAny_bind (wpAny_field he rfl (x := .ref it) rfl ?_)
    refine wpAny_bind (wpAny_nextOf_tuple_end (I.ok.hd hc) hit p2 (by simp; omega) fun h' x he' hx' => ?_)
    obtain ⟨o, ho, hc2⟩ := hx'
    refine wpAny_bind (wpAny_isInstance (T := "StopIteration") (b := true) ⟨o, ho, hc2⟩ isSubtype_stop ?_)
    exact wpAny_pure (ends _ he')
  self := fun A i s Q E st h => let ⟨⟨_, he⟩, _⟩ := st; wpAny_pyIter_enum he h
def iEnT (K : PySem.W.Frag) (ta : TA) : TI := fun σ G R => ta σ G fun vs G1 => ∃ a xs, vs = [.ref a] ∧ SqT K G1 a xs ∧ R (Ity K a 0) G1
def iEnTS (K : PySem.W.Frag) (ta tk : TA) : TI := fun σ G R => ta σ G fun vs G1 => tk σ G1 fun zs G2 => ∃ a xs c, vs = [.ref a] ∧ zs = [.int c] ∧ -(2 ^ 63) ≤ c ∧ c < 2 ^ 63 ∧ SqT K G2 a xs ∧ R (Ity K a c) G2
section
variable {X : Cx} {e : Expr} {ta tk : TA} {p pos tpos : Pos} {elts : List Expr} {kk : Nat} {kws : List Keyword}
theorem begun {pins : List (Addr × Obj)} {σ : L2.St} {G : Hp} {s1 : Shared} {R : It → Hp → Prop} {a : Addr} {c : Int} {h' : Heap} (I1 : Inv X pins σ G s1) (he : IsEnum h' (s1.heap.objs.size + 1) s1.heap.objs.size c .none)
    (hit : h'.get? s1.heap.objs.size = some { cls := .type "tuple_iterator", data := .fields #[.ref a, .int 0 0] }) (hk : ∀ b o, s1.heap.get? b = some o → h'.get? b = some o) (q : R (Ity X.K a c) G) :
    PIE X pins σ (.Tuple elts kk tpos) R (.ref (s1.heap.objs.size + 1)) { s1 with heap := h' } := by
  have I2 : Inv X pins σ G { s1 with heap := h' } := I1.kept (t' := s1.toks) hk
  have he0 : IsEnum h' (s1.heap.objs.size + 1) s1.heap.objs.size (c + ((0 : Nat) : Int)) .none := by
    rw [show c + ((0 : Nat) : Int) = c from by omega]
    exact he
  refine ⟨s1.heap.objs.size + 1, [s1.heap.objs.size + 1, s1.heap.objs.size], _, _, G, rfl, I2, turn_ity a (s1.heap.objs.size + 1) s1.heap.objs.size c, ⟨⟨.none, he0⟩, ⟨_, hit, rfl, rfl⟩, Nat.succ_ne_self _⟩, fun b hb => ?_, q⟩
  have z : b = s1.heap.objs.size + 1 ∨ b = s1.heap.objs.size := by simpa using hb
  have hle : s1.heap.objs.size ≤ b := by
    rcases z with z | z
    · rw [z]; exact Nat.le_add_right _ _
    · rw [z]; exact Nat.le_refl _
  exact I1.fpOk hle (I1.hok.fresh hle)
theorem pi_enT (hg : Gl X "enumerate") (hm : X.mg "enumerate" = none) (ha : PA X [e] ta) (hs : starEach [e] X.env = [(false, eval e X.env)] := by rfl) :
    PI X (.Tuple elts kk tpos) (.Call (.Name "enumerate" p) [e] [] pos) (iEnT X.K ta) := by
  refine ⟨fun pins s σ G R I h => ?_⟩
  refine Call_ (ld_blt I hg hm boot_enumerate (PyProof.Rows.callWith_type1 (thn (ha.run pos pins s σ G _ I h) fun us s1 ⟨vs, G1, I1, r1, q1⟩ => ?_) hs rfl))
  obtain ⟨a, xs, ex, hq, q⟩ := q1
  subst ex
  cases r1 with
  | cons r rr =>
    cases rr
    cases r
    obtain ⟨its, rv, p', hz⟩ := I1.tuple hq
    refine kd_enum1 (begins_tuple a its.toArray) (show s1.heap.IsTuple a its.toArray from p') fun h' he hit hsz hk => wpAny_pyIter_enum he (begun I1 he hit hk q)
theorem callWith_typeK {M : Model} {A : Around} {E : Value → Shared → Prop} {s : Shared} {env : Env} {T : String} {e : Expr} {rest : List Expr} {kws : List Keyword} {Q : Value → Shared → Prop}
    (h : wpAny M A (spliced (backTo pos (starEach (e :: rest) env))) (fun vs s1 => wpAny M A (evalAll ((backToKw pos (keywordEach kws env)).map (·.2)))
      (fun kvs s2 => wpAny M A (call (.type T) vs (((backToKw pos (keywordEach kws env)).filterMap (·.1)).zip kvs)) Q E s2) E s1) E s)
    (he : backTo pos (starEach (e :: rest) env) = (false, eval e env) :: backTo pos (starEach rest env) := by rfl)
    (hplain : (backTo pos (starEach (e :: rest) env)).any (·.1) = false := by rfl)
    (hall : (backToKw pos (keywordEach kws env)).all (·.1.isSome) = true := by rfl)
    (hkw : (backToKw pos (keywordEach kws env)).any (·.1.isNone) = false := by rfl) :
    wpAny M A (callWith pos (.type T) [] (backTo pos (starEach (e :: rest) env)) (backToKw pos (keywordEach kws env))) Q E s := by
  unfold callWith
  have hE : wpAny M A (evalArgs (.type T) true (backTo pos (starEach (e :: rest) env)) (backToKw pos (keywordEach kws env))) (fun a s1 => wpAny M A (call (.type T) ([] ++ a.pos) a.kw) Q E s1) E s := by
    rw [he] at h ⊢
    exact PyProof.Rows.evalArgs_kwB hall h
  refine wpAny_bind (wpAny_holding (wpAny_mono hE (fun a s1 g1 => wpAny_bind (wpAny_standAt ?_)) fun _ _ x => x))
  simp only [hplain, hkw, Bool.or_false]
  refine wpAny_bind (wpAny_pure ?_)
  exact wpAny_bind (wpAny_mono g1 (fun r s2 hr => wpAny_bind (wpAny_holding (wpAny_point (wpAny_pure hr)))) fun _ _ x => x)
theorem pi_enTS (hg : Gl X "enumerate") (hm : X.mg "enumerate" = none) (ha : PA X [e] ta) (hk : PK X kws tk)
    (hks : (backToKw pos (keywordEach kws X.env)).filterMap (·.1) = [("start" : Str)] := by rfl)
    (he : backTo pos (starEach [e] X.env) = (false, eval e X.env) :: backTo pos (starEach [] X.env) := by rfl)
    (hplain : (backTo pos (starEach [e] X.env)).any (·.1) = false := by rfl)
    (hall : (backToKw pos (keywordEach kws X.env)).all (·.1.isSome) = true := by rfl)
    (hkw : (backToKw pos (keywordEach kws X.env)).any (·.1.isNone) = false := by rfl) :
    PI X (.Tuple elts kk tpos) (.Call (.Name "enumerate" p) [e] kws pos) (iEnTS X.K ta tk) := by
  refine ⟨fun pins s σ G R I h => ?_⟩
  refine wpAny_Call_Name_kw (ld_blt I hg hm boot_enumerate ?_)
  refine callWith_typeK (thn (ha.run pos pins s σ G _ I h) fun us s1 ⟨vs, G1, I1, r1, q1⟩ => thn (hk.run pos pins s1 σ G1 _ I1 q1) fun ws s2 ⟨zs, G2, I2, r2, q2⟩ => ?_) he hplain hall hkw
  rw [hks]
  obtain ⟨a, xs, c, ex, ez, c0, c1, hq, q⟩ := q2
  subst ex ez
  cases r1 with
  | cons r rr =>
    cases rr
    cases r
    cases r2 with
    | cons t tt =>
      cases tt
      obtain ⟨t0, rfl⟩ := t
      obtain ⟨its, rv, p', hz⟩ := I2.tuple hq
      exact enum_begins_start (begins_tuple a its.toArray) (show s2.heap.IsTuple a its.toArray from p') c0 c1 fun h' he hit hsz hk => wpAny_pyIter_enum he (begun I2 he hit hk q)
end
theorem walk_ity {K : PySem.W.Frag} {a : Addr} {xs : List V} {c : Int} : Walk (Ity K a c) xs.length (fun G => SqT K G a xs) (YPair (fun i => some (.int (c + (i : Nat)))) (fun i => xs[i]?)) := by
  refine ⟨fun i _ hi q => ⟨xs, xs[i], q, by simp [hi]⟩, fun _ q => ⟨xs, q, Nat.le_refl _⟩, fun i G v G' _ q y => ?_⟩
  obtain ⟨t, x, h1, h2, h3, h4⟩ := y
  exact ⟨t, .int (c + (i : Nat)), x, h1, h2, h3, rfl, h4 xs q⟩
section
variable {X : Cx}
/-- sorted(d), its keys ints, any number of them -/
theorem call_sortedDA (hcalm : X.calm = true) : CallR X (.builtin "sorted") (fun xs G Q => ∃ (a : Addr) (kvs : List (Key × V)) (ks : List Int), xs = [.ref a] ∧ Rd G a (.dK kvs) ∧ kvs.map (·.1) = ks.map Sum.inl ∧
    ∀ (ys : List Int) (p : Addr), ys.Perm ks → ys.Pairwise (· ≤ ·) → G p = none → Q (.ref p) (upd G p (.lst (ys.map V.int)))) := by
  intro pins s σ G xs us Q I r q
  obtain ⟨a, kvs, ks, ex, hd, hks, q⟩ := q
  subst ex
  obtain ⟨u, eu, rx⟩ := vals1 r
  subst eu
  cases rx
  obtain ⟨z, lo, vs, rel, dd⟩ := dk_rd I.hok hd
  obtain ⟨ep, hat⟩ := dd.dictAt
  have hkeys : vs.map (·.1) = ks.map Sum.inl := rel.keys.symm.trans hks
  have hl : vs.length = ks.length := by
    have e := congrArg List.length hkeys
    rw [List.length_map, List.length_map] at e
    exact e
  have zv : vs.length ≤ sizeLine := by rw [← rel.length]; exact z
  refine Calls.call_function_entry PyProof.Rows.kind_sorted PyProof.Rows.plain_sorted PyProof.Rows.entry_sorted (PyProof.Rows.args_sorted1 _) ?_
  unfold Builtin.«sorted»
  refine wpAny_bind (m := checkCount "sorted" 1 1 _) (wpAny_pure ?_)
  refine wpAny_bind (PySem.W.kdu_collect (A := X.A.in1) (PySem.W.kdl_dict (knd := mixKind X.prog X.w) (kvs := vs) (ep := ep) lo) (I.ok.hd hcalm) hat zv fun h' tk acc hk hacc => ?_)
  have hal : acc.toList.length = ks.length := by rw [Array.length_toList, hacc.1, hl]
  have hS : IntsAre acc.toList ks := ints_each hal fun j v e => by
    obtain ⟨k, x, e1, e2⟩ := hacc.2 j v (by rw [← Array.getElem?_toList]; exact e)
    have e3 : (vs.map (·.1))[j]? = some k := by rw [List.getElem?_map, e1]; rfl
    rw [hkeys, List.getElem?_map] at e3
    cases e4 : ks[j]? with
    | none => rw [e4] at e3; cases e3
    | some y =>
      rw [e4] at e3
      have e5 : Sum.inl y = k := Option.some.inj e3
      subst e5
      rcases keyIs_shape (show keyIs (Sum.inl y) v = true from e2) with ⟨i, t, ek, ev⟩ | ⟨zz, t, ek, ev⟩
      · cases ek
        exact ⟨y, t, rfl, ev⟩
      · cases ek
  have I1 : Inv X pins σ G { s with heap := h', toks := tk } := I.kept hk
  have hsz : acc.toList.length ≤ sizeLine := by rw [hal, ← hl]; exact zv
  refine wpAny_bind (wpAny_newList ?_ hsz)
  have hoL : (h'.push (seqObj "list" acc.toList.toArray 0)).get? h'.objs.size = some (seqObj "list" acc.toList.toArray 0) := Heap.get?_push_size _ rfl
  show wpAny _ _ _ _ _ { s with heap := h'.push (seqObj "list" acc.toList.toArray 0), toks := tk }
  refine wpAny_bind (wpAny_holding (wpAny_call_entry PyProof.Rows.slot_list_sort ⟨_, hoL, rfl⟩ PyProof.Rows.entry_list_sort
    (SrtO.list_sort_ord (s := { s with heap := h'.push (seqObj "list" acc.toList.toArray 0), toks := tk }) SrtO.swo_int hoL hsz (fun h2 => SrtO.ints_sortable hS h2) fun out g1 g2 => ⟨_, rfl, ?_⟩) (PyProof.Rows.args_list_sort _)))
  obtain ⟨k1, k2, k3⟩ := SrtO.ints_out hS g1 g2
  obtain ⟨e', he'⟩ := PyProof.Rows.sortedHeap_at (vs := acc.toList) (out := out.toArray) hoL
  have hlen : ((out.map SrtO.iv).map V.int).length ≤ sizeLine := by
    rw [List.length_map, k2.length_eq, ← hal]
    exact hsz
  refine wpAny_pure ⟨_, rfl, .ref h'.objs.size, upd G h'.objs.size (.lst ((out.map SrtO.iv).map V.int)), I1.laid (t' := tk) (fun b u e => ?_) (Nat.le_refl _)
    (show ObjOk X.prog X.w _ _ _ (.lst ((out.map SrtO.iv).map V.int)) from ⟨hlen, out, e', vals_of_ints k1, he'⟩), rfl, q _ _ k2 k3 (I1.hok.fresh (Nat.le_refl _))⟩
  have hb : b < h'.objs.size := Heap.lt_size e
  rw [PyProof.Rows.sortedHeap_old (Nat.ne_of_lt hb) (by rw [size_push']; exact Nat.lt_succ_of_lt hb)]
  exact Heap.get?_push_of_some _ e
/-! ### plain tuples, whose objects are known; dict of one -/
def FzT (G : Hp) (a : Addr) (ys : List V) : Prop := ∃ ob : Obj, ob.dict = none ∧ G a = some (.frz ob (.tup ys))
theorem FzT.sq {K : PySem.W.Frag} {G : Hp} {a : Addr} {ys : List V} (h : FzT G a ys) : SqT K G a ys := by
  obtain ⟨ob, _, e⟩ := h
  exact .inl (.inr ⟨ob, e⟩)
/-- tuple(xs), xs a list -/
theorem call_tupleFz : CallR X (.type "tuple") (fun xs G Q => ∃ p ys, xs = [.ref p] ∧ SqL X.K G p ys ∧ ∀ l ob, G l = none → ob.dict = none → Q (.ref l) (upd G l (.frz ob (.tup ys)))) := by
  intro pins s σ G xs us Q I r h
  obtain ⟨p, ys, rfl, hq, q⟩ := h
  obtain ⟨u, rfl, rx⟩ := vals1 r
  cases rx
  obtain ⟨its, r', pl, hz⟩ := I.list hq
  have hlen := r'.length
  refine call_tuple_list pl.isList (fun h' kp => ?_) (by simp only [List.size_toArray] <;> omega)
  have I1 : Inv X pins σ G { s with heap := h' } := I.kept (t' := s.toks) kp
  have I2 : Inv X pins σ (upd G h'.objs.size (.frz { cls := .type "tuple", data := .seq its.toArray } (.tup ys))) { s with heap := h'.push { cls := .type "tuple", data := .seq its.toArray } } :=
    I1.laid (t' := s.toks) (fun b o e => Heap.get?_push_of_some _ e) (Nat.le_refl _) (show ObjOk X.prog X.w _ _ _ (.frz { cls := .type "tuple", data := .seq its.toArray } (.tup ys)) from ⟨Heap.get?_push_size _ rfl, hz, its, r', IsTup.new _ _⟩)
  exact ⟨.ref h'.objs.size, _, I2, rfl, q _ _ (I1.hok.fresh (Nat.le_refl _)) rfl⟩
theorem pairs_both {pins : List (Addr × Obj)} {σ : L2.St} {G : Hp} {s : Shared} (I : Inv X pins σ G s) : ∀ {ps : List Addr} {kvs : List (Key × V)}, Paired (fun p kv => SqT X.K G p [kV kv.1, kv.2]) ps kvs →
    ∃ (prs : List (Key × Value)) (ks : List (Value × Value)), KV kvs prs ∧ prs.length = ps.length ∧ ks.length = ps.length ∧
      ∀ (j : Nat) (k v : Value), ks[j]? = some (k, v) → ∃ (b : Addr) (y : Key), ps[j]? = some b ∧ IsTup s.heap b #[k, v] ∧ prs[j]? = some (y, v) ∧ keyIs y k = true
  | _, _, .nil => ⟨[], [], .nil, rfl, rfl, fun j _ _ e => by simp at e⟩
  | _, _, .cons (a := p) (b := kv) h t => by
    obtain ⟨prs, ks, rr, l1, l2, hp⟩ := pairs_both I t
    obtain ⟨its, rv, ht, _⟩ := I.tuple h
    obtain ⟨u, y, ei, ru, ry⟩ := vals2 rv
    subst ei
    refine ⟨(kv.1, y) :: prs, (u, y) :: ks, .cons ⟨rfl, ry⟩ rr, by rw [List.length_cons, List.length_cons, l1], by rw [List.length_cons, List.length_cons, l2], fun j k v e => ?_⟩
    cases j with
    | zero =>
      have e' : (u, y) = (k, v) := Option.some.inj e
      cases e'
      exact ⟨p, kv.1, rfl, ht, rfl, kV_is (P := X.prog) (w := X.w) ru⟩
    | succ j =>
      obtain ⟨b, z, e1, e2, e3, e4⟩ := hp j k v (by simpa using e)
      exact ⟨b, z, by simpa using e1, e2, by simpa using e3, e4⟩
/-- dict(t), t a plain tuple of pairs -/
theorem call_dictFz (hcalm : X.calm = true) : CallR X (.type "dict") (fun xs G Q => ∃ (a : Addr) (ps : List Addr) (kvs : List (Key × V)), xs = [.ref a] ∧ FzT G a (ps.map V.ref) ∧ Paired (fun p kv => SqT X.K G p [kV kv.1, kv.2]) ps kvs ∧
    ∀ p, G p = none → Q (.ref p) (upd G p (.dK (mergeK [] kvs)))) := by
  intro pins s σ G xs us Q I r q
  obtain ⟨a, ps, kvs, rfl, ⟨ob, od, ha⟩, hp, q⟩ := q
  obtain ⟨u, rfl, rx⟩ := vals1 r
  cases rx
  obtain ⟨hget, hz, its, rv, o2, g1, g2, n, g3⟩ := (show ObjOk X.prog X.w G s.heap a (.frz ob (.tup (ps.map V.ref))) from I.hok a _ ha)
  rw [hget] at g1
  cases g1
  have ei := refs_at rv
  subst ei
  rw [List.length_map] at hz
  obtain ⟨prs, ks, rel, l1, l2, hpr⟩ := pairs_both I hp
  have ok : PlainSeq "tuple" s.heap a (ps.map Value.ref).toArray ∧ PairItems s.heap (ps.map Value.ref).toArray (fun j => ps.getD j 0) ks := by
    refine ⟨⟨ob, n, hget, g2, od, g3⟩, by simp [l2], fun j k v e => ?_⟩
    obtain ⟨b, y, e1, e2, e3, e4⟩ := hpr j k v e
    have eb : ps.getD j 0 = b := by
      rw [List.getD_eq_getElem?_getD, e1]
      rfl
    show _ = some (Value.ref (ps.getD j 0)) ∧ PairAt s.heap (ps.getD j 0) k v
    rw [eb]
    exact ⟨by simp [e1], .inl e2⟩
  refine PySem.call_dict_pairs (knd := mixKind X.prog X.w) (kvs := prs) (PairArg.tuple a _ (fun j => ps.getD j 0) ks) (I.ok.hd hcalm) ok ⟨by rw [l1, l2], fun j k v e => ?_⟩ (by rw [l2]; exact hz) fun h' tk hd' kk => ?_
  · obtain ⟨b, y, e1, e2, e3, e4⟩ := hpr j k v e
    exact ⟨y, e3, e4⟩
  · have hm : (s.heap.objs.size == sysModules) = false := beq_eq_false_iff_ne.mpr (Nat.ne_of_gt I.big)
    have hlen : (mergeK [] kvs).length ≤ sizeLine := by
      refine Nat.le_trans (length_mergeK kvs []) ?_
      rw [List.length_nil, Nat.zero_add, rel.length, l1]
      exact hz
    exact ⟨.ref s.heap.objs.size, upd G s.heap.objs.size (.dK (mergeK [] kvs)), I.laid (t' := tk) (fun b o e => kk b o (fun z => nomatch z) e) (Nat.le_refl _) (show ObjOk X.prog X.w _ _ _ (.dK (mergeK [] kvs)) from ⟨hlen, hm, merged [] prs, KV.merge rel .nil, hd'⟩), rfl, q _ (I.hok.fresh (Nat.le_refl _))⟩
end
end KD
set_option maxRecDepth 100000
set_option maxHeartbeats 4000000
/-! A name set to a dict that is made by a comprehension. -/
namespace KH
open PySem PySem.Spec PyProof.Rows L2
section
variable {X : Cx}
theorem ps_setDc {i : Nat} {y : Str} {py : Pos} {kx vx tg iter : Expr} {ifs : List Expr} {scope : Scope} {own : List (Str × Nat)} {pos spos : Pos} {wi : TI} {g : TG} {tt : TT} {tk tv : TE} (hc : X.calm = true) (hN : X.N.Nodup) (hy : X.N[i]? = some y) (hyl : X.env.scope.names.lookup y = some .local)
    (hsw : swapsWith (.DictComp kx vx [⟨tg, iter, ifs, 0⟩] scope pos) (some (.Name y py)) spos.line X.env = pure true) (hi : PI X tg iter wi) (ok : BlkOk X.N X.env.scope scope own)
    (hg : ∀ (s : Shared) (H : Hp) (C : Addr) (cl : List (Str × Addr)) (fp : List Addr), PG (X.blk s H scope (compEnvC scope cl C X.env) fp) tg g) (ht : ∀ (s : Shared) (H : Hp) (C : Addr) (cl : List (Str × Addr)) (fp : List Addr), PTs (X.blk s H scope (compEnvC scope cl C X.env) fp) ifs tt)
    (hk : ∀ (s : Shared) (H : Hp) (C : Addr) (cl : List (Str × Addr)) (fp : List Addr), PE (X.blk s H scope (compEnvC scope cl C X.env) fp) kx tk)
    (he : ∀ (s : Shared) (H : Hp) (C : Addr) (cl : List (Str × Addr)) (fp : List Addr), PE (X.blk s H scope (compEnvC scope cl C X.env) fp) vx tv) (hs : ∀ x, foldedSetIterable iter X.env x = pure x := by intro _; rfl) :
    PS X (.Assign [.Name y py] (.DictComp kx vx [⟨tg, iter, ifs, 0⟩] scope pos) spos) (tAsg (tDc wi g tt tk tv (own.map (·.2))) (gName i)) := by
  refine ⟨fun pins s σ H D I h => ?_⟩
  rw [exec_Assign_Name_used _ _ _ _ hsw]
  refine wpAny_bind (wpAny_standAt (wpAny_bind ?_))
  show wpAny _ X.A (do let _ ← comprehension (.DictComp kx vx [⟨tg, iter, ifs, 0⟩] scope pos) scope X.env (firstIterPos [⟨tg, iter, ifs, 0⟩] pos) newDict false (eval iter X.env) (some (assign (.Name y py) X.env))) _ _ s
  have h : tDc wi g tt tk tv (own.map (·.2)) σ H (fun x H1 => gName i x σ H1 D.nx) := h
  refine wpAny_bind (thn (dc_core (Qf := fun _ s' => SP X pins D .next s') hc hN I hi ok hg ht hk he hs h fun L C s' m H' I' q hn f => ?_) fun _ s' hq => wpAny_pure (wpAny_pure hq))
  show wpAny _ _ (assign (.Name y py) X.env (.ref L)) _ _ _
  refine wpAny_assign_Name (store_ok2 (v := V.ref L) I' hN hy (.inl hyl) rfl (fun s2 I2 ⟨a, sb, ha⟩ => ?_) (.inr hyl))
  obtain ⟨f0, f1, f2, f3, f4, f5⟩ := f
  have haC : C ≠ a := by
    rcases ha with z | z
    · rw [z]; exact f1
    · exact fun e => f4 y a z e.symm
  refine ⟨m, hn.sameBut sb haC, fun h3 sb3 => ?_⟩
  exact ⟨_, H', I2.turned (t' := s2.toks) (fun b o hb e => (sb3.2 b hb).trans e) f0 f1 f3 f4 f5, q⟩
theorem sw_trueD {kx vx : Expr} {gs : List Comprehension} {scope : Scope} {pos py : Pos} {y : Str} {l : Nat} {env : Env} (hk : env.scope.kind = .function) (hy : env.scope.names.lookup y = some .local) (hl : (py.line == pos.line) = true)
    (ha : (scope.names.any fun (n, k) => n == y && (k == .local || k == .cell)) = false) : swapsWith (.DictComp kx vx gs scope pos) (some (.Name y py)) l env = pure true := by
  have ky : env.kindOf y = some .local := hy
  have hb : env.blockKind = .function := by unfold Env.blockKind; rw [hk]; rfl
  unfold swapsWith
  simp only [hb, ky, ha, Expr.pos, hl]
  rfl
end
end KH
set_option maxRecDepth 100000
set_option maxHeartbeats 4000000
/-! Calls by name, the names the other way about. -/
namespace KG
open PySem PySem.Spec PyProof.Rows L2
section
variable {X : Cx} {CX : CXT} {k : Nat} {f : Addr} {fd : FuncData} {ps ks : List Str} {sp : Sp} {E : XK} {x : Str} {p pos : Pos} {kws : List Keyword} {tk : TA} {g : List Value → List Value → List Value} {gV : List V → List V → List V}
theorem pe_callKw (F : FnOk X.prog X.w X.K X.mg X.base CX k f fd ps sp) (hr : Room k X.A) (hg : Gl X x) (hm : X.mg x = some (.ref f)) (hk : PySem.W.keepIn X.K (.ref f) = true) (hb : KBinds X.K fd ps ks g gV) (hx : Passes CX X E)
    (hkw : PK X kws tk) (hall : (backToKw pos (keywordEach kws X.env)).all (·.1.isSome) = true := by rfl) (hks : (backToKw pos (keywordEach kws X.env)).filterMap (·.1) = ks := by rfl)
    (hdb : (x == ("__debug__" : Str)) = false := by decide)
    (hpl : ((backTo pos (starEach [] X.env)).any (·.1) || (backToKw pos (keywordEach kws X.env)).any (·.1.isNone)) = false := by rfl) :
    PE X (.Call (.Name x p) [] kws pos) (tCallK sp gV E tNil tk) := by
  refine ⟨fun pins s σ H Q I h => ?_⟩
  refine wpAny_Call_Name_kw (ld_glob I hg hm ?_ hdb)
  refine PySem.W.callWith_KW0 (h₀ := X.base) I.ok.mod.kin hk hall ?_ hpl
  refine thn (hkw.run pos pins s σ H _ I h) fun ws s2 ⟨zs, H2, I2, rz, q2⟩ => ⟨I2.kIn, ?_⟩
  rw [hks]
  exact run_fnk (us := []) (vs := []) F hr hb hx I2 .nil rz q2
end
section
variable {x : Str} {ps ks : List Str} {f : Addr} {fd : FuncData}
def kR {α : Type} (us ws : List α) : List α := if us.isEmpty then ws.reverse else []
theorem vals_app : ∀ {vs us : List V} {ws zs : List Value}, Vals vs ws → Vals us zs → Vals (vs ++ us) (ws ++ zs)
  | _, _, _, _, .nil, h => h
  | _, _, _, _, .cons a t, h => .cons a (vals_app t h)
theorem vals_rev : ∀ {vs : List V} {ws : List Value}, Vals vs ws → Vals vs.reverse ws.reverse
  | _, _, .nil => .nil
  | _, _, .cons a t => by
    rw [List.reverse_cons, List.reverse_cons]
    exact vals_app (vals_rev t) (.cons a .nil)
theorem kb_rev {K : PySem.W.Frag} {qual : Str} {params : Arguments} {body : List Stmt} {scope : Scope} {kws : List (Str × V)} (F : FunD K x qual params body scope [] kws f fd) (hp : ps.length ≠ 0)
    (h : ∀ (kV doc pm : Value) (an : Option Addr) (cdv ct : Value) (ws : List Value), ws.length = ps.length → bindArgs (PySem.W.fnOf x qual params body scope .none kV doc pm an cdv ct) ⟨[], ks.zip ws⟩ = pure (ps.zip ws.reverse)) : KBinds K fd ps ks kR kR := by
  obtain ⟨oc, od, dV, kV, doc, pm, an, cdv, ct, osl, rfl, lk, hcd, hD, hK⟩ := F.ex
  rcases hD with ⟨_, rfl⟩ | ⟨e, _⟩
  · refine ⟨fun s us ws _ hl => ?_, fun {vs us zs ws} r rz => ?_⟩
    · cases us with
      | nil =>
        have hl2 : ws.length = ps.length := by
          have : ws.reverse.length = ps.length := hl
          rw [List.length_reverse] at this
          exact this
        exact .of_eq (h kV doc pm an cdv ct ws hl2)
      | cons a b => exact absurd hl.symm hp
    · cases r with
      | nil => exact vals_rev rz
      | cons _ _ => exact .nil
  · exact absurd rfl e
end
end KG
set_option maxRecDepth 100000
set_option maxHeartbeats 0
namespace K50
open PySem PySem.Spec PyProof.Rows L2
def top (i : Nat) : Stmt := PySem.Challenge.pw_latepresses_k50_whole_letters_by_the_wor.main.body.getD i (.Pass ⟨0, 0, 0, 0⟩)
abbrev s_is_whole : Stmt := top 8
abbrev s_is_between : Stmt := top 9
abbrev s_ascends : Stmt := top 10
abbrev s_is_press : Stmt := top 12
abbrev s_is_known : Stmt := top 14
abbrev s_is_made : Stmt := top 15
abbrev s_is_tick : Stmt := top 16
abbrev s_is_letter : Stmt := top 23
abbrev s_is_from_0 : Stmt := top 24
abbrev s_need_letter : Stmt := top 25
abbrev s_letter : Stmt := top 26
abbrev s_letter_of : Stmt := top 27
abbrev s_size_in_bits : Stmt := top 28
abbrev s_law_deck : Stmt := top 30
abbrev s_law_draw : Stmt := top 31
abbrev s_law_same : Stmt := top 32
abbrev s_law_heard : Stmt := top 33
abbrev s_law_drawn : Stmt := top 34
abbrev s_law_is_letter : Stmt := top 35
abbrev s_law_bent : Stmt := top 36
abbrev s_law_letter : Stmt := top 37
abbrev s_law_known : Stmt := top 38
abbrev s_law_own_right : Stmt := top 39
abbrev s_law_size_right : Stmt := top 40
abbrev s_law : Stmt := top 41
abbrev FnQ (K : PySem.W.Frag) (x q : Str) (st : Stmt) (f : Addr) (fd : FuncData) : Prop := FunD K x q (defArgs st) (defBody st) (defScope st) [] [] f fd
def fdAt (K : PySem.W.Frag) (a : Addr) : FuncData := match K.lookup a with
  | some ⟨_, _, .func fd, _⟩ => fd
  | _ => PySem.W.fnOf "" "" (defArgs (top 0)) [] (defScope (top 0)) .none .none .none .none none .none .none
theorem fdAt_eq {K : PySem.W.Frag} {a : Addr} {x q : Str} {st : Stmt} {fd : FuncData} (F : FnQ K x q st a fd) : FnQ K x q st a (fdAt K a) := by
  obtain ⟨oc, od, dV, kV, doc, pm, an, cdv, ct, osl, e, lk, r⟩ := F.ex
  have h : fdAt K a = fd := by
    unfold fdAt
    rw [lk]
  rw [h]
  exact F
def d_is_whole : He.DefD := ⟨("is_whole", none), "is_whole", "is_whole", defArgs s_is_whole, defBody s_is_whole, defScope s_is_whole, [], []⟩
def d_is_between : He.DefD := ⟨("is_between", none), "is_between", "is_between", defArgs s_is_between, defBody s_is_between, defScope s_is_between, [], []⟩
def d_ascends : He.DefD := ⟨("ascends", none), "ascends", "ascends", defArgs s_ascends, defBody s_ascends, defScope s_ascends, [], []⟩
def d_is_press : He.DefD := ⟨("is_press", none), "is_press", "is_press", defArgs s_is_press, defBody s_is_press, defScope s_is_press, [], []⟩
def d_is_known : He.DefD := ⟨("is_known", none), "is_known", "is_known", defArgs s_is_known, defBody s_is_known, defScope s_is_known, [], []⟩
def d_is_made : He.DefD := ⟨("_is_made", none), "_is_made", "_is_made", defArgs s_is_made, defBody s_is_made, defScope s_is_made, [], []⟩
def d_is_tick : He.DefD := ⟨("_is_tick", none), "_is_tick", "_is_tick", defArgs s_is_tick, defBody s_is_tick, defScope s_is_tick, [], []⟩
def d_is_letter : He.DefD := ⟨("is_letter", none), "is_letter", "is_letter", defArgs s_is_letter, defBody s_is_letter, defScope s_is_letter, [], []⟩
def d_is_from_0 : He.DefD := ⟨("_is_from_0", none), "_is_from_0", "_is_from_0", defArgs s_is_from_0, defBody s_is_from_0, defScope s_is_from_0, [], []⟩
def d_need_letter : He.DefD := ⟨("_need_letter", none), "_need_letter", "_need_letter", defArgs s_need_letter, defBody s_need_letter, defScope s_need_letter, [], []⟩
def d_letter : He.DefD := ⟨("letter", none), "letter", "letter", defArgs s_letter, defBody s_letter, defScope s_letter, [], []⟩
def d_letter_of : He.DefD := ⟨("letter_of", none), "letter_of", "letter_of", defArgs s_letter_of, defBody s_letter_of, defScope s_letter_of, [], []⟩
def d_size_in_bits : He.DefD := ⟨("size_in_bits", none), "size_in_bits", "size_in_bits", defArgs s_size_in_bits, defBody s_size_in_bits, defScope s_size_in_bits, [], []⟩
def d_law_deck : He.DefD := ⟨("_law_deck", none), "_law_deck", "_law_deck", defArgs s_law_deck, defBody s_law_deck, defScope s_law_deck, [], []⟩
def d_law_draw : He.DefD := ⟨("_law_draw", none), "_law_draw", "_law_draw", defArgs s_law_draw, defBody s_law_draw, defScope s_law_draw, [], []⟩
def d_law_same : He.DefD := ⟨("_law_same", none), "_law_same", "_law_same", defArgs s_law_same, defBody s_law_same, defScope s_law_same, [], []⟩
def d_law_heard : He.DefD := ⟨("_law_heard", none), "_law_heard", "_law_heard", defArgs s_law_heard, defBody s_law_heard, defScope s_law_heard, [], []⟩
def d_law_drawn : He.DefD := ⟨("_law_drawn", none), "_law_drawn", "_law_drawn", defArgs s_law_drawn, defBody s_law_drawn, defScope s_law_drawn, [], []⟩
def d_law_is_letter : He.DefD := ⟨("_law_is_letter", none), "_law_is_letter", "_law_is_letter", defArgs s_law_is_letter, defBody s_law_is_letter, defScope s_law_is_letter, [], []⟩
def d_law_bent : He.DefD := ⟨("_law_bent", none), "_law_bent", "_law_bent", defArgs s_law_bent, defBody s_law_bent, defScope s_law_bent, [], []⟩
def d_law_letter : He.DefD := ⟨("_law_letter", none), "_law_letter", "_law_letter", defArgs s_law_letter, defBody s_law_letter, defScope s_law_letter, [], []⟩
def d_law_known : He.DefD := ⟨("_law_known", none), "_law_known", "_law_known", defArgs s_law_known, defBody s_law_known, defScope s_law_known, [], []⟩
def d_law_own_right : He.DefD := ⟨("_law_own_right", none), "_law_own_right", "_law_own_right", defArgs s_law_own_right, defBody s_law_own_right, defScope s_law_own_right, [], []⟩
def d_law_size_right : He.DefD := ⟨("_law_size_right", none), "_law_size_right", "_law_size_right", defArgs s_law_size_right, defBody s_law_size_right, defScope s_law_size_right, [], []⟩
def d_law : He.DefD := ⟨("law", none), "law", "law", defArgs s_law, defBody s_law, defScope s_law, [], []⟩
def loose0 : List Str := ["is_whole", "is_between", "ascends", "is_press", "is_known", "_is_made", "_is_tick", "is_letter", "_is_from_0", "_need_letter", "letter", "letter_of", "size_in_bits", "_law_deck", "_law_draw", "_law_same", "_law_heard", "_law_drawn", "_law_is_letter", "_law_bent", "_law_letter", "_law_known", "_law_own_right", "_law_size_right", "GameError", "InvalidKnown", "InvalidTick", "InvalidHouse", "InvalidLetter", "MOST_PRESS"]
def loose1 : List Str := ["MOST_PRESSES", "BITS_OF_HOUSE", "BITS_OF_TICK", "BITS_OF_PRESS", "BITS_OF_LENGTH"]
def loose : List Str := loose0 ++ loose1
def fn : List He.DefD := [d_is_whole, d_is_between, d_ascends, d_is_press, d_is_known, d_is_made, d_is_tick, d_is_letter, d_is_from_0, d_need_letter, d_letter, d_letter_of, d_size_in_bits, d_law_deck, d_law_draw, d_law_same, d_law_heard, d_law_drawn, d_law_is_letter, d_law_bent, d_law_letter, d_law_known, d_law_own_right, d_law_size_right, d_law]
def fa : List He.Fa := [.glo "is_whole", .glo "is_between", .glo "ascends", .glo "is_press", .glo "is_known", .glo "_is_made", .glo "_is_tick", .glo "is_letter", .glo "_is_from_0", .glo "_need_letter", .glo "letter", .glo "letter_of", .glo "size_in_bits", .glo "_law_deck", .glo "_law_draw", .glo "_law_same", .glo "_law_heard", .glo "_law_drawn", .glo "_law_is_letter", .glo "_law_bent", .glo "_law_letter", .glo "_law_known", .glo "_law_own_right", .glo "_law_size_right", .glo "law", .free "len", .free "int", .free "isinstance", .free "range", .free "all", .free "min", .free "max", .free "bool", .free "tuple", .free "list", .free "zip", .free "ValueError", .free "repr", .free "abs", .free "dict", .int "MOST_PRESS" 63, .int "MOST_PRESSES" 32, .int "BITS_OF_HOUSE" 8, .int "BITS_OF_TICK" 16, .int "BITS_OF_PRESS" 6, .int "BITS_OF_LENGTH" 6, .glo "GameError", .glo "InvalidKnown", .glo "InvalidTick", .glo "InvalidHouse", .glo "InvalidLetter"]
def tupA (K : PySem.W.Frag) (a : Addr) (vs : List He.Dv) : Bool := match K.lookup a with
  | some ⟨.type c, _, .seq its _, _⟩ => decide (c = "tuple") && (decide (its.size ≤ sizeLine) && He.relAll (vs.map (He.Dv.v K)) its.toList)
  | _ => false
theorem tupA_ok {K : PySem.W.Frag} {a : Addr} {vs : List He.Dv} (h : tupA K a vs = true) (H : Hp) : SqT K H a (vs.map (He.Dv.v K)) := by
  unfold tupA at h
  split at h
  · rename_i c dd its n sl q
    obtain ⟨h1, h2⟩ := He.ba h
    obtain ⟨h3, h4⟩ := He.ba h2
    exact .inr ⟨_, its, n, q, congrArg Value.type (of_decide_eq_true h1), rfl, of_decide_eq_true h3, He.relAll_ok h4⟩
  · cases h
/-- where a written dict's value lies -/
def dtA (K : PySem.W.Frag) (x k : Str) : Addr := match PySem.W.nsIn K (He.ga K x) k with
  | some (some (.ref a)) => a
  | _ => 0
def dtB (K : PySem.W.Frag) (x : Str) (q : Str × List He.Dv) : Bool := decide (PySem.W.nsIn K (He.ga K x) q.1 = some (some (.ref (dtA K x q.1)))) && tupA K (dtA K x q.1) q.2
def tabs : List He.Tab := []
def exs (K : PySem.W.Frag) : Bool := true
abbrev R : PySem.W.OpenRow := PySem.W.OpenLaw.row PySem.Challenge.rw_latepresses_k50_whole_letters_by_the_wor
abbrev hk : PySem.W.Hook := He.hookX 6 fa fn tabs [] exs
def ob (s : PySem.W.SharedT) : He.AlX := He.obsX 6 fa fn tabs [] exs (HandSHeadRun.getT s)
theorem ob_eq (s : PySem.W.SharedT) : ob s = hk.obs s.abs := He.obsX_eq (HandSHeadRun.getT_eq s)
theorem run0 (w : World) : HandSHeadRun.RunEq R (PySem.W.view R.prog [41]) hk ob 20000 loose (w.withFollow "special-get-raises" false) := by
  intro os
  kernel_rfl
theorem run1 (w : World) : HandSHeadRun.RunEq R (PySem.W.view R.prog [41]) hk ob 20000 loose (w.withFollow "special-get-raises" true) := by
  intro os
  kernel_rfl
theorem run (w : World) : HandSHeadRun.RunEq R (PySem.W.view R.prog [41]) hk ob 20000 loose w :=
  PySem.W.byRow2 "special-get-raises" (P := fun w => HandSHeadRun.RunEq R (PySem.W.view R.prog [41]) hk ob 20000 loose w) run0 run1 w
structure Txt (K : PySem.W.Frag) (w : World) (mg : Str → Option Value) : Prop where
  F_is_whole : FnQ K "is_whole" "is_whole" s_is_whole (He.fAd K ("is_whole", none)) (fdAt K (He.fAd K ("is_whole", none)))
  b_is_whole : Binds K (fdAt K (He.fAd K ("is_whole", none))) ["told"] []
  F_is_between : FnQ K "is_between" "is_between" s_is_between (He.fAd K ("is_between", none)) (fdAt K (He.fAd K ("is_between", none)))
  b_is_between : Binds K (fdAt K (He.fAd K ("is_between", none))) ["told", "low", "high"] []
  F_ascends : FnQ K "ascends" "ascends" s_ascends (He.fAd K ("ascends", none)) (fdAt K (He.fAd K ("ascends", none)))
  b_ascends : Binds K (fdAt K (He.fAd K ("ascends", none))) ["row"] []
  F_is_press : FnQ K "is_press" "is_press" s_is_press (He.fAd K ("is_press", none)) (fdAt K (He.fAd K ("is_press", none)))
  b_is_press : Binds K (fdAt K (He.fAd K ("is_press", none))) ["told"] []
  F_is_known : FnQ K "is_known" "is_known" s_is_known (He.fAd K ("is_known", none)) (fdAt K (He.fAd K ("is_known", none)))
  b_is_known : Binds K (fdAt K (He.fAd K ("is_known", none))) ["told"] []
  F_is_made : FnQ K "_is_made" "_is_made" s_is_made (He.fAd K ("_is_made", none)) (fdAt K (He.fAd K ("_is_made", none)))
  b_is_made : Binds K (fdAt K (He.fAd K ("_is_made", none))) ["made", "ends"] []
  F_is_tick : FnQ K "_is_tick" "_is_tick" s_is_tick (He.fAd K ("_is_tick", none)) (fdAt K (He.fAd K ("_is_tick", none)))
  b_is_tick : Binds K (fdAt K (He.fAd K ("_is_tick", none))) ["told"] []
  F_is_letter : FnQ K "is_letter" "is_letter" s_is_letter (He.fAd K ("is_letter", none)) (fdAt K (He.fAd K ("is_letter", none)))
  b_is_letter : Binds K (fdAt K (He.fAd K ("is_letter", none))) ["told"] []
  F_is_from_0 : FnQ K "_is_from_0" "_is_from_0" s_is_from_0 (He.fAd K ("_is_from_0", none)) (fdAt K (He.fAd K ("_is_from_0", none)))
  b_is_from_0 : Binds K (fdAt K (He.fAd K ("_is_from_0", none))) ["told"] []
  F_need_letter : FnQ K "_need_letter" "_need_letter" s_need_letter (He.fAd K ("_need_letter", none)) (fdAt K (He.fAd K ("_need_letter", none)))
  b_need_letter : Binds K (fdAt K (He.fAd K ("_need_letter", none))) ["letter"] []
  F_letter : FnQ K "letter" "letter" s_letter (He.fAd K ("letter", none)) (fdAt K (He.fAd K ("letter", none)))
  b_letter : Binds K (fdAt K (He.fAd K ("letter", none))) ["house", "known", "first", "heard"] []
  F_letter_of : FnQ K "letter_of" "letter_of" s_letter_of (He.fAd K ("letter_of", none)) (fdAt K (He.fAd K ("letter_of", none)))
  b_letter_of : Binds K (fdAt K (He.fAd K ("letter_of", none))) ["house", "known", "first", "heard"] []
  F_size_in_bits : FnQ K "size_in_bits" "size_in_bits" s_size_in_bits (He.fAd K ("size_in_bits", none)) (fdAt K (He.fAd K ("size_in_bits", none)))
  b_size_in_bits : Binds K (fdAt K (He.fAd K ("size_in_bits", none))) ["letter"] []
  F_law_deck : FnQ K "_law_deck" "_law_deck" s_law_deck (He.fAd K ("_law_deck", none)) (fdAt K (He.fAd K ("_law_deck", none)))
  b_law_deck : Binds K (fdAt K (He.fAd K ("_law_deck", none))) ["script", "at"] []
  F_law_draw : FnQ K "_law_draw" "_law_draw" s_law_draw (He.fAd K ("_law_draw", none)) (fdAt K (He.fAd K ("_law_draw", none)))
  b_law_draw : Binds K (fdAt K (He.fAd K ("_law_draw", none))) ["deck", "many"] []
  F_law_same : FnQ K "_law_same" "_law_same" s_law_same (He.fAd K ("_law_same", none)) (fdAt K (He.fAd K ("_law_same", none)))
  b_law_same : Binds K (fdAt K (He.fAd K ("_law_same", none))) ["told", "due"] []
  F_law_heard : FnQ K "_law_heard" "_law_heard" s_law_heard (He.fAd K ("_law_heard", none)) (fdAt K (He.fAd K ("_law_heard", none)))
  b_law_heard : Binds K (fdAt K (He.fAd K ("_law_heard", none))) ["deck"] []
  F_law_drawn : FnQ K "_law_drawn" "_law_drawn" s_law_drawn (He.fAd K ("_law_drawn", none)) (fdAt K (He.fAd K ("_law_drawn", none)))
  b_law_drawn : Binds K (fdAt K (He.fAd K ("_law_drawn", none))) ["deck"] []
  F_law_is_letter : FnQ K "_law_is_letter" "_law_is_letter" s_law_is_letter (He.fAd K ("_law_is_letter", none)) (fdAt K (He.fAd K ("_law_is_letter", none)))
  b_law_is_letter : Binds K (fdAt K (He.fAd K ("_law_is_letter", none))) ["told"] []
  F_law_bent : FnQ K "_law_bent" "_law_bent" s_law_bent (He.fAd K ("_law_bent", none)) (fdAt K (He.fAd K ("_law_bent", none)))
  b_law_bent : Binds K (fdAt K (He.fAd K ("_law_bent", none))) ["deck", "told"] []
  F_law_letter : FnQ K "_law_letter" "_law_letter" s_law_letter (He.fAd K ("_law_letter", none)) (fdAt K (He.fAd K ("_law_letter", none)))
  b_law_letter : Binds K (fdAt K (He.fAd K ("_law_letter", none))) ["house", "table", "ends", "first", "heard"] []
  F_law_known : FnQ K "_law_known" "_law_known" s_law_known (He.fAd K ("_law_known", none)) (fdAt K (He.fAd K ("_law_known", none)))
  b_law_known : Binds K (fdAt K (He.fAd K ("_law_known", none))) ["deck"] []
  F_law_own_right : FnQ K "_law_own_right" "_law_own_right" s_law_own_right (He.fAd K ("_law_own_right", none)) (fdAt K (He.fAd K ("_law_own_right", none)))
  b_law_own_right : Binds K (fdAt K (He.fAd K ("_law_own_right", none))) ["deck"] []
  F_law_size_right : FnQ K "_law_size_right" "_law_size_right" s_law_size_right (He.fAd K ("_law_size_right", none)) (fdAt K (He.fAd K ("_law_size_right", none)))
  b_law_size_right : Binds K (fdAt K (He.fAd K ("_law_size_right", none))) ["told"] []
  F_law : FnQ K "law" "law" s_law (He.fAd K ("law", none)) (fdAt K (He.fAd K ("law", none)))
  b_law : Binds K (fdAt K (He.fAd K ("law", none))) ["script"] []
  g_is_whole : mg "is_whole" = some (.ref (He.ga K "is_whole"))
  g_is_between : mg "is_between" = some (.ref (He.ga K "is_between"))
  g_ascends : mg "ascends" = some (.ref (He.ga K "ascends"))
  g_is_press : mg "is_press" = some (.ref (He.ga K "is_press"))
  g_is_known : mg "is_known" = some (.ref (He.ga K "is_known"))
  g_is_made : mg "_is_made" = some (.ref (He.ga K "_is_made"))
  g_is_tick : mg "_is_tick" = some (.ref (He.ga K "_is_tick"))
  g_is_letter : mg "is_letter" = some (.ref (He.ga K "is_letter"))
  g_is_from_0 : mg "_is_from_0" = some (.ref (He.ga K "_is_from_0"))
  g_need_letter : mg "_need_letter" = some (.ref (He.ga K "_need_letter"))
  g_letter : mg "letter" = some (.ref (He.ga K "letter"))
  g_letter_of : mg "letter_of" = some (.ref (He.ga K "letter_of"))
  g_size_in_bits : mg "size_in_bits" = some (.ref (He.ga K "size_in_bits"))
  g_law_deck : mg "_law_deck" = some (.ref (He.ga K "_law_deck"))
  g_law_draw : mg "_law_draw" = some (.ref (He.ga K "_law_draw"))
  g_law_same : mg "_law_same" = some (.ref (He.ga K "_law_same"))
  g_law_heard : mg "_law_heard" = some (.ref (He.ga K "_law_heard"))
  g_law_drawn : mg "_law_drawn" = some (.ref (He.ga K "_law_drawn"))
  g_law_is_letter : mg "_law_is_letter" = some (.ref (He.ga K "_law_is_letter"))
  g_law_bent : mg "_law_bent" = some (.ref (He.ga K "_law_bent"))
  g_law_letter : mg "_law_letter" = some (.ref (He.ga K "_law_letter"))
  g_law_known : mg "_law_known" = some (.ref (He.ga K "_law_known"))
  g_law_own_right : mg "_law_own_right" = some (.ref (He.ga K "_law_own_right"))
  g_law_size_right : mg "_law_size_right" = some (.ref (He.ga K "_law_size_right"))
  g_law : mg "law" = some (.ref (He.ga K "law"))
  n_len : mg "len" = none
  n_int : mg "int" = none
  n_isinstance : mg "isinstance" = none
  n_range : mg "range" = none
  n_all : mg "all" = none
  n_min : mg "min" = none
  n_max : mg "max" = none
  n_bool : mg "bool" = none
  n_tuple : mg "tuple" = none
  n_list : mg "list" = none
  n_zip : mg "zip" = none
  n_ValueError : mg "ValueError" = none
  n_repr : mg "repr" = none
  n_abs : mg "abs" = none
  n_dict : mg "dict" = none
  c_MOST_PRESS : ∃ u, mg "MOST_PRESS" = some u ∧ RelV (.int 63) u
  c_MOST_PRESSES : ∃ u, mg "MOST_PRESSES" = some u ∧ RelV (.int 32) u
  c_BITS_OF_HOUSE : ∃ u, mg "BITS_OF_HOUSE" = some u ∧ RelV (.int 8) u
  c_BITS_OF_TICK : ∃ u, mg "BITS_OF_TICK" = some u ∧ RelV (.int 16) u
  c_BITS_OF_PRESS : ∃ u, mg "BITS_OF_PRESS" = some u ∧ RelV (.int 6) u
  c_BITS_OF_LENGTH : ∃ u, mg "BITS_OF_LENGTH" = some u ∧ RelV (.int 6) u
  g_GameError : mg "GameError" = some (.ref (He.ga K "GameError"))
  g_InvalidKnown : mg "InvalidKnown" = some (.ref (He.ga K "InvalidKnown"))
  g_InvalidTick : mg "InvalidTick" = some (.ref (He.ga K "InvalidTick"))
  g_InvalidHouse : mg "InvalidHouse" = some (.ref (He.ga K "InvalidHouse"))
  g_InvalidLetter : mg "InvalidLetter" = some (.ref (He.ga K "InvalidLetter"))
theorem txt_of {K : PySem.W.Frag} {w : World} {h h0 : Heap} {mg : Str → Option Value} (X : K.In h) (G : h.Ns mainGlobals mg) (c : He.SaysX fa fn tabs [] exs w h0 K) : Txt K w mg := by
  have cd := c.t.d
  obtain ⟨fd_is_whole, f_is_whole⟩ := cd.def_ 0 (d := d_is_whole) rfl
  obtain ⟨fd_is_between, f_is_between⟩ := cd.def_ 1 (d := d_is_between) rfl
  obtain ⟨fd_ascends, f_ascends⟩ := cd.def_ 2 (d := d_ascends) rfl
  obtain ⟨fd_is_press, f_is_press⟩ := cd.def_ 3 (d := d_is_press) rfl
  obtain ⟨fd_is_known, f_is_known⟩ := cd.def_ 4 (d := d_is_known) rfl
  obtain ⟨fd_is_made, f_is_made⟩ := cd.def_ 5 (d := d_is_made) rfl
  obtain ⟨fd_is_tick, f_is_tick⟩ := cd.def_ 6 (d := d_is_tick) rfl
  obtain ⟨fd_is_letter, f_is_letter⟩ := cd.def_ 7 (d := d_is_letter) rfl
  obtain ⟨fd_is_from_0, f_is_from_0⟩ := cd.def_ 8 (d := d_is_from_0) rfl
  obtain ⟨fd_need_letter, f_need_letter⟩ := cd.def_ 9 (d := d_need_letter) rfl
  obtain ⟨fd_letter, f_letter⟩ := cd.def_ 10 (d := d_letter) rfl
  obtain ⟨fd_letter_of, f_letter_of⟩ := cd.def_ 11 (d := d_letter_of) rfl
  obtain ⟨fd_size_in_bits, f_size_in_bits⟩ := cd.def_ 12 (d := d_size_in_bits) rfl
  obtain ⟨fd_law_deck, f_law_deck⟩ := cd.def_ 13 (d := d_law_deck) rfl
  obtain ⟨fd_law_draw, f_law_draw⟩ := cd.def_ 14 (d := d_law_draw) rfl
  obtain ⟨fd_law_same, f_law_same⟩ := cd.def_ 15 (d := d_law_same) rfl
  obtain ⟨fd_law_heard, f_law_heard⟩ := cd.def_ 16 (d := d_law_heard) rfl
  obtain ⟨fd_law_drawn, f_law_drawn⟩ := cd.def_ 17 (d := d_law_drawn) rfl
  obtain ⟨fd_law_is_letter, f_law_is_letter⟩ := cd.def_ 18 (d := d_law_is_letter) rfl
  obtain ⟨fd_law_bent, f_law_bent⟩ := cd.def_ 19 (d := d_law_bent) rfl
  obtain ⟨fd_law_letter, f_law_letter⟩ := cd.def_ 20 (d := d_law_letter) rfl
  obtain ⟨fd_law_known, f_law_known⟩ := cd.def_ 21 (d := d_law_known) rfl
  obtain ⟨fd_law_own_right, f_law_own_right⟩ := cd.def_ 22 (d := d_law_own_right) rfl
  obtain ⟨fd_law_size_right, f_law_size_right⟩ := cd.def_ 23 (d := d_law_size_right) rfl
  obtain ⟨fd_law, f_law⟩ := cd.def_ 24 (d := d_law) rfl
  exact {
    F_is_whole := fdAt_eq f_is_whole
    b_is_whole := (fdAt_eq (st := s_is_whole) f_is_whole).bindsN fun _ _ _ _ _ _ us hl => match us, hl with | [_], _ => rfl
    F_is_between := fdAt_eq f_is_between
    b_is_between := (fdAt_eq (st := s_is_between) f_is_between).bindsN fun _ _ _ _ _ _ us hl => match us, hl with | [_, _, _], _ => rfl
    F_ascends := fdAt_eq f_ascends
    b_ascends := (fdAt_eq (st := s_ascends) f_ascends).bindsN fun _ _ _ _ _ _ us hl => match us, hl with | [_], _ => rfl
    F_is_press := fdAt_eq f_is_press
    b_is_press := (fdAt_eq (st := s_is_press) f_is_press).bindsN fun _ _ _ _ _ _ us hl => match us, hl with | [_], _ => rfl
    F_is_known := fdAt_eq f_is_known
    b_is_known := (fdAt_eq (st := s_is_known) f_is_known).bindsN fun _ _ _ _ _ _ us hl => match us, hl with | [_], _ => rfl
    F_is_made := fdAt_eq f_is_made
    b_is_made := (fdAt_eq (st := s_is_made) f_is_made).bindsN fun _ _ _ _ _ _ us hl => match us, hl with | [_, _], _ => rfl
    F_is_tick := fdAt_eq f_is_tick
    b_is_tick := (fdAt_eq (st := s_is_tick) f_is_tick).bindsN fun _ _ _ _ _ _ us hl => match us, hl with | [_], _ => rfl
    F_is_letter := fdAt_eq f_is_letter
    b_is_letter := (fdAt_eq (st := s_is_letter) f_is_letter).bindsN fun _ _ _ _ _ _ us hl => match us, hl with | [_], _ => rfl
    F_is_from_0 := fdAt_eq f_is_from_0
    b_is_from_0 := (fdAt_eq (st := s_is_from_0) f_is_from_0).bindsN fun _ _ _ _ _ _ us hl => match us, hl with | [_], _ => rfl
    F_need_letter := fdAt_eq f_need_letter
    b_need_letter := (fdAt_eq (st := s_need_letter) f_need_letter).bindsN fun _ _ _ _ _ _ us hl => match us, hl with | [_], _ => rfl
    F_letter := fdAt_eq f_letter
    b_letter := (fdAt_eq (st := s_letter) f_letter).bindsN fun _ _ _ _ _ _ us hl => match us, hl with | [_, _, _, _], _ => rfl
    F_letter_of := fdAt_eq f_letter_of
    b_letter_of := (fdAt_eq (st := s_letter_of) f_letter_of).bindsN fun _ _ _ _ _ _ us hl => match us, hl with | [_, _, _, _], _ => rfl
    F_size_in_bits := fdAt_eq f_size_in_bits
    b_size_in_bits := (fdAt_eq (st := s_size_in_bits) f_size_in_bits).bindsN fun _ _ _ _ _ _ us hl => match us, hl with | [_], _ => rfl
    F_law_deck := fdAt_eq f_law_deck
    b_law_deck := (fdAt_eq (st := s_law_deck) f_law_deck).bindsN fun _ _ _ _ _ _ us hl => match us, hl with | [_, _], _ => rfl
    F_law_draw := fdAt_eq f_law_draw
    b_law_draw := (fdAt_eq (st := s_law_draw) f_law_draw).bindsN fun _ _ _ _ _ _ us hl => match us, hl with | [_, _], _ => rfl
    F_law_same := fdAt_eq f_law_same
    b_law_same := (fdAt_eq (st := s_law_same) f_law_same).bindsN fun _ _ _ _ _ _ us hl => match us, hl with | [_, _], _ => rfl
    F_law_heard := fdAt_eq f_law_heard
    b_law_heard := (fdAt_eq (st := s_law_heard) f_law_heard).bindsN fun _ _ _ _ _ _ us hl => match us, hl with | [_], _ => rfl
    F_law_drawn := fdAt_eq f_law_drawn
    b_law_drawn := (fdAt_eq (st := s_law_drawn) f_law_drawn).bindsN fun _ _ _ _ _ _ us hl => match us, hl with | [_], _ => rfl
    F_law_is_letter := fdAt_eq f_law_is_letter
    b_law_is_letter := (fdAt_eq (st := s_law_is_letter) f_law_is_letter).bindsN fun _ _ _ _ _ _ us hl => match us, hl with | [_], _ => rfl
    F_law_bent := fdAt_eq f_law_bent
    b_law_bent := (fdAt_eq (st := s_law_bent) f_law_bent).bindsN fun _ _ _ _ _ _ us hl => match us, hl with | [_, _], _ => rfl
    F_law_letter := fdAt_eq f_law_letter
    b_law_letter := (fdAt_eq (st := s_law_letter) f_law_letter).bindsN fun _ _ _ _ _ _ us hl => match us, hl with | [_, _, _, _, _], _ => rfl
    F_law_known := fdAt_eq f_law_known
    b_law_known := (fdAt_eq (st := s_law_known) f_law_known).bindsN fun _ _ _ _ _ _ us hl => match us, hl with | [_], _ => rfl
    F_law_own_right := fdAt_eq f_law_own_right
    b_law_own_right := (fdAt_eq (st := s_law_own_right) f_law_own_right).bindsN fun _ _ _ _ _ _ us hl => match us, hl with | [_], _ => rfl
    F_law_size_right := fdAt_eq f_law_size_right
    b_law_size_right := (fdAt_eq (st := s_law_size_right) f_law_size_right).bindsN fun _ _ _ _ _ _ us hl => match us, hl with | [_], _ => rfl
    F_law := fdAt_eq f_law
    b_law := (fdAt_eq (st := s_law) f_law).bindsN fun _ _ _ _ _ _ us hl => match us, hl with | [_], _ => rfl
    g_is_whole := He.glo_ok X G (cd.fact 0 (f := .glo "is_whole") rfl)
    g_is_between := He.glo_ok X G (cd.fact 1 (f := .glo "is_between") rfl)
    g_ascends := He.glo_ok X G (cd.fact 2 (f := .glo "ascends") rfl)
    g_is_press := He.glo_ok X G (cd.fact 3 (f := .glo "is_press") rfl)
    g_is_known := He.glo_ok X G (cd.fact 4 (f := .glo "is_known") rfl)
    g_is_made := He.glo_ok X G (cd.fact 5 (f := .glo "_is_made") rfl)
    g_is_tick := He.glo_ok X G (cd.fact 6 (f := .glo "_is_tick") rfl)
    g_is_letter := He.glo_ok X G (cd.fact 7 (f := .glo "is_letter") rfl)
    g_is_from_0 := He.glo_ok X G (cd.fact 8 (f := .glo "_is_from_0") rfl)
    g_need_letter := He.glo_ok X G (cd.fact 9 (f := .glo "_need_letter") rfl)
    g_letter := He.glo_ok X G (cd.fact 10 (f := .glo "letter") rfl)
    g_letter_of := He.glo_ok X G (cd.fact 11 (f := .glo "letter_of") rfl)
    g_size_in_bits := He.glo_ok X G (cd.fact 12 (f := .glo "size_in_bits") rfl)
    g_law_deck := He.glo_ok X G (cd.fact 13 (f := .glo "_law_deck") rfl)
    g_law_draw := He.glo_ok X G (cd.fact 14 (f := .glo "_law_draw") rfl)
    g_law_same := He.glo_ok X G (cd.fact 15 (f := .glo "_law_same") rfl)
    g_law_heard := He.glo_ok X G (cd.fact 16 (f := .glo "_law_heard") rfl)
    g_law_drawn := He.glo_ok X G (cd.fact 17 (f := .glo "_law_drawn") rfl)
    g_law_is_letter := He.glo_ok X G (cd.fact 18 (f := .glo "_law_is_letter") rfl)
    g_law_bent := He.glo_ok X G (cd.fact 19 (f := .glo "_law_bent") rfl)
    g_law_letter := He.glo_ok X G (cd.fact 20 (f := .glo "_law_letter") rfl)
    g_law_known := He.glo_ok X G (cd.fact 21 (f := .glo "_law_known") rfl)
    g_law_own_right := He.glo_ok X G (cd.fact 22 (f := .glo "_law_own_right") rfl)
    g_law_size_right := He.glo_ok X G (cd.fact 23 (f := .glo "_law_size_right") rfl)
    g_law := He.glo_ok X G (cd.fact 24 (f := .glo "law") rfl)
    n_len := He.free_ok X G (cd.fact 25 (f := .free "len") rfl)
    n_int := He.free_ok X G (cd.fact 26 (f := .free "int") rfl)
    n_isinstance := He.free_ok X G (cd.fact 27 (f := .free "isinstance") rfl)
    n_range := He.free_ok X G (cd.fact 28 (f := .free "range") rfl)
    n_all := He.free_ok X G (cd.fact 29 (f := .free "all") rfl)
    n_min := He.free_ok X G (cd.fact 30 (f := .free "min") rfl)
    n_max := He.free_ok X G (cd.fact 31 (f := .free "max") rfl)
    n_bool := He.free_ok X G (cd.fact 32 (f := .free "bool") rfl)
    n_tuple := He.free_ok X G (cd.fact 33 (f := .free "tuple") rfl)
    n_list := He.free_ok X G (cd.fact 34 (f := .free "list") rfl)
    n_zip := He.free_ok X G (cd.fact 35 (f := .free "zip") rfl)
    n_ValueError := He.free_ok X G (cd.fact 36 (f := .free "ValueError") rfl)
    n_repr := He.free_ok X G (cd.fact 37 (f := .free "repr") rfl)
    n_abs := He.free_ok X G (cd.fact 38 (f := .free "abs") rfl)
    n_dict := He.free_ok X G (cd.fact 39 (f := .free "dict") rfl)
    c_MOST_PRESS := by
      obtain ⟨t, e⟩ := He.int_ok X G (cd.fact 40 (f := .int "MOST_PRESS" 63) rfl)
      exact ⟨_, e, ⟨t, rfl⟩⟩
    c_MOST_PRESSES := by
      obtain ⟨t, e⟩ := He.int_ok X G (cd.fact 41 (f := .int "MOST_PRESSES" 32) rfl)
      exact ⟨_, e, ⟨t, rfl⟩⟩
    c_BITS_OF_HOUSE := by
      obtain ⟨t, e⟩ := He.int_ok X G (cd.fact 42 (f := .int "BITS_OF_HOUSE" 8) rfl)
      exact ⟨_, e, ⟨t, rfl⟩⟩
    c_BITS_OF_TICK := by
      obtain ⟨t, e⟩ := He.int_ok X G (cd.fact 43 (f := .int "BITS_OF_TICK" 16) rfl)
      exact ⟨_, e, ⟨t, rfl⟩⟩
    c_BITS_OF_PRESS := by
      obtain ⟨t, e⟩ := He.int_ok X G (cd.fact 44 (f := .int "BITS_OF_PRESS" 6) rfl)
      exact ⟨_, e, ⟨t, rfl⟩⟩
    c_BITS_OF_LENGTH := by
      obtain ⟨t, e⟩ := He.int_ok X G (cd.fact 45 (f := .int "BITS_OF_LENGTH" 6) rfl)
      exact ⟨_, e, ⟨t, rfl⟩⟩
    g_GameError := He.glo_ok X G (cd.fact 46 (f := .glo "GameError") rfl)
    g_InvalidKnown := He.glo_ok X G (cd.fact 47 (f := .glo "InvalidKnown") rfl)
    g_InvalidTick := He.glo_ok X G (cd.fact 48 (f := .glo "InvalidTick") rfl)
    g_InvalidHouse := He.glo_ok X G (cd.fact 49 (f := .glo "InvalidHouse") rfl)
    g_InvalidLetter := He.glo_ok X G (cd.fact 50 (f := .glo "InvalidLetter") rfl)
  }
end K50
set_option maxRecDepth 100000
set_option maxHeartbeats 2000000
/-! What is known, letters, what is learned: by lists alone. -/
namespace K50
open PySem PySem.Spec PyProof.Rows L2 KF
abbrev Rw := List (Int × Int)
structure Kn where
  row : Rw
  ends : Option Int
structure Lt where
  first : Int
  row : List Int
  ends : Option Int
def behind (e : Option Int) (t : Int) : Bool := match e with
  | some g => decide (g ≤ t)
  | none => false
def look (r : Rw) (t : Int) : Option Int := (r.find? fun e => decide (e.1 = t)).map (·.2)
def held (k : Kn) (t : Int) : Option Int := if behind k.ends t = true then some 0 else look k.row t
def keys (r : Rw) : List Int := r.map (·.1)
theorem look_mem {r : Rw} {t v : Int} (h : look r t = some v) : (t, v) ∈ r := by
  unfold look at h
  cases e : r.find? fun e => decide (e.1 = t) with
  | none => rw [e] at h; cases h
  | some q =>
    rw [e] at h
    have h1 := List.find?_some e
    have h2 := List.mem_of_find?_eq_some e
    obtain ⟨a, b⟩ := q
    have e1 : a = t := of_decide_eq_true h1
    have e2 : b = v := Option.some.inj h
    subst e1 e2
    exact h2
theorem look_none {r : Rw} {t : Int} (h : look r t = none) : t ∉ keys r := by
  intro hm
  obtain ⟨q, hq, e⟩ := List.mem_map.mp hm
  unfold look at h
  rw [Option.map_eq_none_iff, List.find?_eq_none] at h
  exact h q hq (decide_eq_true e)
theorem look_key {r : Rw} {t v : Int} (h : look r t = some v) : t ∈ keys r := List.mem_map.mpr ⟨_, look_mem h, rfl⟩
theorem look_of {r : Rw} {t v : Int} (nd : (keys r).Nodup) (h : (t, v) ∈ r) : look r t = some v := by
  cases e : look r t with
  | none => exact absurd (List.mem_map.mpr ⟨_, h, rfl⟩) (look_none e)
  | some u =>
    have hu := look_mem e
    induction r with
    | nil => cases h
    | cons q r ih =>
      have nd' : (q.1 :: keys r).Nodup := nd
      rw [List.nodup_cons] at nd'
      rcases List.mem_cons.mp h with h | h <;> rcases List.mem_cons.mp hu with hu | hu
      · rw [← h] at hu
        cases hu
        rfl
      · exact absurd (List.mem_map.mpr ⟨_, hu, by rw [← h]⟩) nd'.1
      · exact absurd (List.mem_map.mpr ⟨_, h, by rw [← hu]⟩) nd'.1
      · have hne : ¬ q.1 = t := fun z => nd'.1 (by rw [z]; exact List.mem_map.mpr ⟨_, h, rfl⟩)
        have e2 : look r t = some u := by
          unfold look at e ⊢
          rw [List.find?_cons_of_neg (by rw [decide_eq_true_eq]; exact hne)] at e
          exact e
        exact ih nd'.2 h e2 hu
theorem look_app {r s : Rw} {t : Int} : look (r ++ s) t = (look r t).or (look s t) := by
  unfold look
  rw [List.find?_append]
  cases r.find? fun e => decide (e.1 = t) <;> simp
theorem look_one {t u v : Int} : look [(u, v)] t = if u = t then some v else none := by
  unfold look
  by_cases e : u = t
  · rw [List.find?_cons_of_pos (by simp [e]), if_pos e]
    rfl
  · rw [List.find?_cons_of_neg (by simp [e]), if_neg e]
    rfl
/-! ### the program's way: what is not there yet is put behind -/
def setr (r : Rw) (t v : Int) : Rw := match look r t with
  | some _ => r
  | none => r ++ [(t, v)]
def addAll (r : Rw) (f : Int) : List Int → Rw
  | [] => r
  | p :: ps => addAll (setr r f p) (f + 1) ps
theorem addAll_snoc (r : Rw) (f : Int) (ps : List Int) (p : Int) : addAll r f (ps ++ [p]) = setr (addAll r f ps) (f + ps.length) p := by
  induction ps generalizing r f with
  | nil => simp [addAll]
  | cons q ps ih =>
    show addAll (setr r f q) (f + 1) (ps ++ [p]) = _
    rw [ih]
    have e : f + 1 + (ps.length : Int) = f + ((q :: ps).length : Int) := by rw [List.length_cons]; omega
    rw [e]
    rfl
theorem look_setr (r : Rw) (t v u : Int) : look (setr r t v) u = (look r u).or (if t = u then some v else none) := by
  unfold setr
  cases e : look r t with
  | some w =>
    by_cases h : t = u
    · subst h
      rw [e]
      rfl
    · rw [if_neg h]
      cases look r u <;> rfl
  | none =>
    show look (r ++ [(t, v)]) u = _
    rw [look_app, look_one]
theorem look_addAll (r : Rw) (f : Int) (ps : List Int) (u : Int) : look (addAll r f ps) u = (look r u).or (if f ≤ u then ps[(u - f).toNat]? else none) := by
  induction ps generalizing r f with
  | nil =>
    show look r u = _
    cases look r u <;> simp
  | cons p ps ih =>
    show look (addAll (setr r f p) (f + 1) ps) u = _
    rw [ih, look_setr]
    cases e : look r u with
    | some w => rfl
    | none =>
      by_cases h : f = u
      · subst h
        simp
      · rw [if_neg h]
        by_cases h2 : f ≤ u
        · rw [if_pos h2, if_pos (by omega)]
          have e2 : (u - f).toNat = (u - (f + 1)).toNat + 1 := by omega
          rw [e2]
          rfl
        · rw [if_neg h2, if_neg (by omega)]
          rfl
theorem nodup_setr {r : Rw} {t v : Int} (h : (keys r).Nodup) : (keys (setr r t v)).Nodup := by
  unfold setr
  cases e : look r t with
  | some w => exact h
  | none =>
    show (keys (r ++ [(t, v)])).Nodup
    unfold keys
    rw [List.map_append, List.nodup_append]
    refine ⟨h, by simp, fun a ha b hb e2 => look_none e ?_⟩
    rw [List.mem_map] at hb
    obtain ⟨q, hq, e3⟩ := hb
    rw [List.mem_singleton.mp hq] at e3
    rw [show t = a from e3.trans e2.symm]
    exact ha
theorem nodup_addAll {r : Rw} {f : Int} {ps : List Int} (h : (keys r).Nodup) : (keys (addAll r f ps)).Nodup := by
  induction ps generalizing r f with
  | nil => exact h
  | cons p ps ih => exact ih (nodup_setr h)
theorem len_setr (r : Rw) (t v : Int) : (setr r t v).length ≤ r.length + 1 := by
  unfold setr
  split
  · omega
  · rw [List.length_append]
    exact Nat.le_refl _
theorem len_addAll (r : Rw) (f : Int) (ps : List Int) : (addAll r f ps).length ≤ r.length + ps.length := by
  induction ps generalizing r f with
  | nil => exact Nat.le_refl _
  | cons p ps ih =>
    have h1 := ih (setr r f p) (f + 1)
    have h2 := len_setr r f p
    show (addAll (setr r f p) (f + 1) ps).length ≤ _
    rw [List.length_cons]
    omega
/-! ### the law's way: each is put -/
def putr (r : Rw) (t v : Int) : Rw := if (r.any fun e => decide (e.1 = t)) = true then r.map (fun e => if e.1 = t then (e.1, v) else e) else r ++ [(t, v)]
def putAll (r : Rw) (f : Int) : List Int → Rw
  | [] => r
  | p :: ps => putAll (putr r f p) (f + 1) ps
theorem putAll_snoc (r : Rw) (f : Int) (ps : List Int) (p : Int) : putAll r f (ps ++ [p]) = putr (putAll r f ps) (f + ps.length) p := by
  induction ps generalizing r f with
  | nil => simp [putAll]
  | cons q ps ih =>
    show putAll (putr r f q) (f + 1) (ps ++ [p]) = _
    rw [ih]
    have e : f + 1 + (ps.length : Int) = f + ((q :: ps).length : Int) := by rw [List.length_cons]; omega
    rw [e]
    rfl
theorem len_putr (r : Rw) (t v : Int) : (putr r t v).length ≤ r.length + 1 := by
  unfold putr
  split
  · rw [List.length_map]
    omega
  · rw [List.length_append]
    exact Nat.le_refl _
theorem len_putAll (r : Rw) (f : Int) (ps : List Int) : (putAll r f ps).length ≤ r.length + ps.length := by
  induction ps generalizing r f with
  | nil => exact Nat.le_refl _
  | cons p ps ih =>
    have h1 := ih (putr r f p) (f + 1)
    have h2 := len_putr r f p
    show (putAll (putr r f p) (f + 1) ps).length ≤ _
    rw [List.length_cons]
    omega
theorem putr_setr {r : Rw} {t v : Int} (nd : (keys r).Nodup) (h : ∀ u, look r t = some u → u = v) : putr r t v = setr r t v := by
  unfold putr setr
  cases e : look r t with
  | some w =>
    have hw := h w e
    subst hw
    have hm := look_mem e
    rw [if_pos (List.any_eq_true.mpr ⟨_, hm, decide_eq_true rfl⟩)]
    show r.map _ = r
    conv => rhs; rw [← List.map_id r]
    refine List.map_congr_left fun q hq => ?_
    split
    · rename_i h1
      have hq2 : (t, q.2) ∈ r := by rw [← h1]; exact hq
      have := look_of nd hq2
      rw [e] at this
      have e3 : w = q.2 := Option.some.inj this
      rw [e3]
      rfl
    · rfl
  | none =>
    have hn := look_none e
    rw [if_neg (by
      rw [List.any_eq_true]
      rintro ⟨q, hq, hd⟩
      exact hn (List.mem_map.mpr ⟨q, hq, of_decide_eq_true hd⟩))]
theorem putAll_addAll {r : Rw} {f : Int} {ps : List Int} (nd : (keys r).Nodup) (h : ∀ (j : Nat) p u, ps[j]? = some p → look r (f + j) = some u → u = p) : putAll r f ps = addAll r f ps := by
  induction ps generalizing r f with
  | nil => rfl
  | cons p ps ih =>
    have e : putr r f p = setr r f p := putr_setr nd fun u hu => h 0 p u rfl (by rw [show f + ((0 : Nat) : Int) = f from by omega]; exact hu)
    show putAll (putr r f p) (f + 1) ps = addAll (setr r f p) (f + 1) ps
    rw [e]
    refine ih (nodup_setr nd) fun j q u hq hu => ?_
    rw [look_setr, if_neg (by omega)] at hu
    have hu2 : look r (f + 1 + j) = some u := by
      cases e4 : look r (f + 1 + (j : Int)) with
      | none => rw [e4] at hu; cases hu
      | some z => rw [e4] at hu; exact hu
    refine h (j + 1) q u hq ?_
    rw [show f + ((j + 1 : Nat) : Int) = f + 1 + (j : Int) from by omega]
    exact hu2
/-! ### sorting -/
def srt (l : List Int) : List Int := l.mergeSort fun a b => decide (a ≤ b)
theorem srt_perm (l : List Int) : (srt l).Perm l := List.mergeSort_perm l _
theorem srt_sorted (l : List Int) : (srt l).Pairwise (· ≤ ·) := by
  have h := List.pairwise_mergeSort (le := fun a b : Int => decide (a ≤ b)) (fun a b c h1 h2 => by
    simp only [decide_eq_true_eq] at *
    omega) (fun a b => by
    simp only [Bool.or_eq_true, decide_eq_true_eq]
    omega) l
  exact h.imp fun {a b} h => of_decide_eq_true h
theorem sorted_eq : ∀ {l m : List Int}, l.Pairwise (· ≤ ·) → m.Pairwise (· ≤ ·) → l.Perm m → l = m
  | [], m, _, _, p => p.nil_eq
  | x :: l, [], _, _, p => by
    have := p.length_eq
    simp at this
  | x :: l, y :: m, h1, h2, p => by
    rw [List.pairwise_cons] at h1 h2
    have e : x = y := by
      have a : x ∈ y :: m := p.mem_iff.mp List.mem_cons_self
      have b : y ∈ x :: l := p.mem_iff.mpr List.mem_cons_self
      rcases List.mem_cons.mp a with a | a
      · exact a
      rcases List.mem_cons.mp b with b | b
      · exact b.symm
      have := h1.1 y b
      have := h2.1 x a
      omega
    subst e
    rw [sorted_eq h1.2 h2.2 (List.perm_cons x |>.mp p)]
theorem srt_of {l ys : List Int} (p : ys.Perm l) (h : ys.Pairwise (· ≤ ·)) : ys = srt l := sorted_eq h (srt_sorted l) (p.trans (srt_perm l).symm)
theorem asc_len : ∀ {l : List Int} {a b : Int}, l.Pairwise (· < ·) → (∀ x ∈ l, a ≤ x ∧ x < b) → (l.length : Int) ≤ b - a ∨ l = []
  | [], _, _, _, _ => .inr rfl
  | x :: l, a, b, h, hb => by
    rw [List.pairwise_cons] at h
    have hx := hb x List.mem_cons_self
    left
    rcases asc_len (a := x + 1) (b := b) h.2 (fun y hy => ⟨by have := h.1 y hy; omega, (hb y (List.mem_cons_of_mem _ hy)).2⟩) with q | q
    · rw [List.length_cons]
      omega
    · rw [q]
      simp
      omega
/-! ### what is right -/
structure Kn.ok (k : Kn) : Prop where
  asc : (keys k.row).Pairwise (· < ·)
  rng : ∀ q ∈ k.row, 0 ≤ q.1 ∧ q.1 < 1000 ∧ 0 ≤ q.2 ∧ q.2 ≤ 63
  ends : ∀ g, k.ends = some g → 0 ≤ g ∧ g ≤ 1000 ∧ ∀ q ∈ k.row, q.1 < g
structure Lt.ok (l : Lt) : Prop where
  first : 0 ≤ l.first ∧ l.first ≤ 400
  len : l.row.length ≤ 32
  top : l.first + l.row.length ≤ 400
  rng : ∀ p ∈ l.row, 0 ≤ p ∧ p ≤ 63
  ends : ∀ e, l.ends = some e → l.first + l.row.length ≤ e ∧ e ≤ 400
theorem Kn.ok.nd {k : Kn} (h : k.ok) : (keys k.row).Nodup := h.asc.imp fun {a b} z => Int.ne_of_lt z
theorem Kn.ok.len {k : Kn} (h : k.ok) : k.row.length ≤ 1000 := by
  have e : (keys k.row).length = k.row.length := List.length_map _
  rcases asc_len (a := 0) (b := 1000) h.asc (fun x hx => by
    obtain ⟨q, hq, e⟩ := List.mem_map.mp hx
    have := h.rng q hq
    rw [← e]
    exact ⟨this.1, this.2.1⟩) with q | q
  · rw [e] at q
    omega
  · rw [← e, q]
    exact Nat.zero_le _
def ende (k : Kn) (l : Lt) : Option Int := match k.ends with
  | some g => some g
  | none => l.ends
def all (k : Kn) (l : Lt) : Rw := addAll k.row l.first l.row
def lrn (k : Kn) (l : Lt) : Kn := ⟨((srt (keys (all k l))).filter fun t => !behind (ende k l) t).map fun t => (t, (look (all k l) t).getD 0), ende k l⟩
def BadP (k : Kn) (l : Lt) (x : Int) : Prop := (∃ (j : Nat) (p h : Int), l.row[j]? = some p ∧ x = l.first + j ∧ held k x = some h ∧ h ≠ p) ∨
  (∃ e, l.ends = some e ∧ ((∃ p, (x, p) ∈ k.row ∧ e ≤ x ∧ p ≠ 0) ∨ ∃ g, k.ends = some g ∧ g ≠ e ∧ x = min g e))
def ClP (k : Kn) (l : Lt) (x : Int) : Prop := (∃ g e, k.ends = some g ∧ l.ends = some e ∧ g ≠ e ∧ x = min g e) ∨ (∃ (j : Nat) (p h : Int), l.row[j]? = some p ∧ x = l.first + j ∧ look k.row x = some h ∧ h ≠ p) ∨
  (behind (ende k l) x = true ∧ ∃ v, look (all k l) x = some v ∧ v ≠ 0)
theorem key_look {r : Rw} {t : Int} (h : t ∈ keys r) : ∃ v, look r t = some v := by
  cases e : look r t with
  | none => exact absurd h (look_none e)
  | some v => exact ⟨v, rfl⟩
def C1 (k : Kn) (l : Lt) (x : Int) : Prop := ∃ g e, k.ends = some g ∧ l.ends = some e ∧ g ≠ e ∧ x = min g e
def C2 (k : Kn) (l : Lt) (n : Nat) (x : Int) : Prop := ∃ (j : Nat) (p h : Int), j < n ∧ l.row[j]? = some p ∧ x = l.first + j ∧ look k.row x = some h ∧ h ≠ p
def C3 (k : Kn) (l : Lt) (t : Int) : Bool := behind (ende k l) t && !decide ((look (all k l) t).getD 0 = 0)
def csE : Option Int → Option Int → List Int
  | some x, some y => if x = y then [] else [min x y]
  | _, _ => []
def cs0 (k : Kn) (l : Lt) : List Int := csE k.ends l.ends
theorem cs0_iff (k : Kn) (l : Lt) (x : Int) : x ∈ cs0 k l ↔ C1 k l x ∨ C2 k l 0 x := by
  have n2 : ¬ C2 k l 0 x := fun ⟨j, _, _, h, _⟩ => absurd h (by omega)
  unfold cs0 C1 csE
  cases k.ends with
  | none => simp [n2]
  | some g =>
    cases l.ends with
    | none => simp [n2]
    | some e =>
      by_cases h : g = e
      · simp [h, n2]
      · simp [h, n2]
theorem cs0_len (k : Kn) (l : Lt) : (cs0 k l).length ≤ 1 := by
  unfold cs0 csE
  split
  · split <;> simp
  · simp
theorem c2_step {k : Kn} {l : Lt} {i : Nat} {p : Int} (hp : l.row[i]? = some p) (x : Int) : C2 k l (i + 1) x ↔ C2 k l i x ∨ (x = l.first + i ∧ ∃ h, look k.row x = some h ∧ h ≠ p) := by
  constructor
  · rintro ⟨j, q, h, h1, h2, h3, h4, h5⟩
    by_cases e : j = i
    · subst e
      rw [hp] at h2
      cases h2
      exact .inr ⟨h3, h, h4, h5⟩
    · exact .inl ⟨j, q, h, by omega, h2, h3, h4, h5⟩
  · rintro (⟨j, q, h, h1, h2, h3, h4, h5⟩ | ⟨h3, h, h4, h5⟩)
    · exact ⟨j, q, h, by omega, h2, h3, h4, h5⟩
    · exact ⟨i, p, h, by omega, hp, h3, h4, h5⟩
theorem look_take {k : Kn} {l : Lt} (i : Nat) : look (addAll k.row l.first (l.row.take i)) (l.first + i) = look k.row (l.first + i) := by
  rw [look_addAll]
  have : (l.row.take i)[(l.first + (i : Int) - l.first).toNat]? = none := List.getElem?_eq_none (by rw [List.length_take]; omega)
  rw [this]
  cases look k.row (l.first + i) <;> simp
theorem cl_iff {k : Kn} {l : Lt} (x : Int) : ClP k l x ↔ (C1 k l x ∨ C2 k l l.row.length x) ∨ (x ∈ keys (all k l) ∧ C3 k l x = true) := by
  unfold ClP C3
  constructor
  · rintro (h | ⟨j, p, h, h1, h2, h3, h4⟩ | ⟨h1, v, h2, h3⟩)
    · exact .inl (.inl h)
    · exact .inl (.inr ⟨j, p, h, (List.getElem?_eq_some_iff.mp h1).1, h1, h2, h3, h4⟩)
    · exact .inr ⟨look_key h2, by rw [h1, h2]; simpa using h3⟩
  · rintro ((h | ⟨j, p, h, h0, h1, h2, h3, h4⟩) | ⟨h1, h2⟩)
    · exact .inl h
    · exact .inr (.inl ⟨j, p, h, h1, h2, h3, h4⟩)
    · obtain ⟨a, b⟩ := Bool.and_eq_true_iff.mp h2
      obtain ⟨v, hv⟩ := key_look h1
      rw [hv] at b
      exact .inr (.inr ⟨a, v, hv, by simpa using b⟩)
theorem all_cases {k : Kn} {l : Lt} {t v : Int} (h : look (all k l) t = some v) : look k.row t = some v ∨ (look k.row t = none ∧ ∃ j : Nat, l.row[j]? = some v ∧ t = l.first + j) := by
  unfold all at h
  rw [look_addAll] at h
  cases e : look k.row t with
  | some u =>
    rw [e] at h
    exact .inl h
  | none =>
    rw [e] at h
    right
    refine ⟨rfl, (t - l.first).toNat, ?_⟩
    by_cases h2 : l.first ≤ t
    · rw [if_pos h2] at h
      exact ⟨h, by omega⟩
    · rw [if_neg h2] at h
      cases h
theorem all_of {k : Kn} {l : Lt} {t v : Int} (h : look k.row t = some v) : look (all k l) t = some v := by
  unfold all
  rw [look_addAll, h]
  rfl
theorem all_new {k : Kn} {l : Lt} {j : Nat} {v : Int} (h : look k.row (l.first + j) = none) (hj : l.row[j]? = some v) : look (all k l) (l.first + j) = some v := by
  unfold all
  rw [look_addAll, h, if_pos (by omega), show (l.first + (j : Int) - l.first).toNat = j by omega, hj]
  rfl
theorem notBehind {k : Kn} (ok : k.ok) {t v : Int} (h : look k.row t = some v) : behind k.ends t = false := by
  unfold behind
  cases e : k.ends with
  | none => rfl
  | some g =>
    have := (ok.ends g e).2.2 _ (look_mem h)
    exact decide_eq_false (by show ¬ g ≤ t; have : t < g := this; omega)
theorem held_of {k : Kn} (ok : k.ok) {t v : Int} (h : look k.row t = some v) : held k t = some v := by
  unfold held
  rw [notBehind ok h]
  exact h
def B1 (k : Kn) (l : Lt) (n : Nat) (x : Int) : Prop := ∃ (j : Nat) (p h : Int), j < n ∧ l.row[j]? = some p ∧ x = l.first + j ∧ held k x = some h ∧ h ≠ p
theorem b1_step {k : Kn} {l : Lt} {i : Nat} {p : Int} (hp : l.row[i]? = some p) (x : Int) : B1 k l (i + 1) x ↔ B1 k l i x ∨ (x = l.first + i ∧ ∃ h, held k x = some h ∧ h ≠ p) := by
  constructor
  · rintro ⟨j, q, h, h1, h2, h3, h4, h5⟩
    by_cases e : j = i
    · subst e
      rw [hp] at h2
      cases h2
      exact .inr ⟨h3, h, h4, h5⟩
    · exact .inl ⟨j, q, h, by omega, h2, h3, h4, h5⟩
  · rintro (⟨j, q, h, h1, h2, h3, h4, h5⟩ | ⟨h3, h, h4, h5⟩)
    · exact ⟨j, q, h, by omega, h2, h3, h4, h5⟩
    · exact ⟨i, p, h, by omega, hp, h3, h4, h5⟩
theorem b1_zero {k : Kn} {l : Lt} (x : Int) : ¬ B1 k l 0 x := fun ⟨j, _, _, h, _⟩ => absurd h (by omega)
theorem bad_iff {k : Kn} {l : Lt} (x : Int) : BadP k l x ↔ B1 k l l.row.length x ∨ (∃ e, l.ends = some e ∧ ((∃ p, (x, p) ∈ k.row ∧ e ≤ x ∧ p ≠ 0) ∨ ∃ g, k.ends = some g ∧ g ≠ e ∧ x = min g e)) := by
  unfold BadP B1
  constructor
  · rintro (⟨j, p, h, h1, h2, h3, h4⟩ | h)
    · exact .inl ⟨j, p, h, (List.getElem?_eq_some_iff.mp h1).1, h1, h2, h3, h4⟩
    · exact .inr h
  · rintro (⟨j, p, h, h0, h1, h2, h3, h4⟩ | h)
    · exact .inl ⟨j, p, h, h1, h2, h3, h4⟩
    · exact .inr h
theorem cl_bad {k : Kn} {l : Lt} (ok : k.ok) (lo : l.ok) {x : Int} (h : ClP k l x) : ∃ y, BadP k l y ∧ y ≤ x := by
  rcases h with ⟨g, e, h1, h2, h3, h4⟩ | ⟨j, p, h, h1, h2, h3, h4⟩ | ⟨h1, v, h2, h3⟩
  · exact ⟨x, .inr ⟨e, h2, .inr ⟨g, h1, h3, h4⟩⟩, Int.le_refl _⟩
  · exact ⟨x, .inl ⟨j, p, h, h1, h2, held_of ok h3, h4⟩, Int.le_refl _⟩
  · refine ⟨x, ?_, Int.le_refl _⟩
    unfold ende at h1
    cases hg : k.ends with
    | some g =>
      rw [hg] at h1
      have hb : behind k.ends x = true := by rw [hg]; exact h1
      rcases all_cases h2 with q | ⟨q, j, hj, e⟩
      · rw [notBehind ok q] at hb
        cases hb
      · exact .inl ⟨j, v, 0, hj, e, by unfold held; rw [if_pos hb], fun z => h3 z.symm⟩
    | none =>
      rw [hg] at h1
      cases he : l.ends with
      | none => rw [he] at h1; cases h1
      | some e =>
        rw [he] at h1
        have hx : e ≤ x := of_decide_eq_true h1
        rcases all_cases h2 with q | ⟨q, j, hj, e2⟩
        · exact .inr ⟨e, he, .inl ⟨v, look_mem q, hx, h3⟩⟩
        · have := (lo.ends e he).1
          have := (List.getElem?_eq_some_iff.mp hj).1
          omega
theorem bad_cl {k : Kn} {l : Lt} (ok : k.ok) (lo : l.ok) {x : Int} (h : BadP k l x) : ∃ y, ClP k l y ∧ y ≤ x := by
  rcases h with ⟨j, p, h, h1, h2, h3, h4⟩ | ⟨e, he, ⟨p, h1, h2, h3⟩ | ⟨g, h1, h2, h3⟩⟩
  · refine ⟨x, ?_, Int.le_refl _⟩
    unfold held at h3
    by_cases hb : behind k.ends x = true
    · rw [if_pos hb] at h3
      have h0 : h = 0 := (Option.some.inj h3).symm
      subst h0
      have hn : look k.row x = none := by
        cases e : look k.row x with
        | none => rfl
        | some u => rw [notBehind ok e] at hb; cases hb
      subst h2
      refine .inr (.inr ⟨?_, p, all_new hn h1, fun z => h4 z.symm⟩)
      unfold ende
      cases hg : k.ends with
      | none => rw [hg] at hb; cases hb
      | some g => rw [hg] at hb; exact hb
    · rw [if_neg hb] at h3
      exact .inr (.inl ⟨j, p, h, h1, h2, h3, h4⟩)
  · cases hg : k.ends with
    | none =>
      refine ⟨x, .inr (.inr ⟨?_, p, all_of (look_of ok.nd h1), h3⟩), Int.le_refl _⟩
      unfold ende
      rw [hg, he]
      exact decide_eq_true h2
    | some g =>
      have hx : x < g := (ok.ends g hg).2.2 _ h1
      exact ⟨min g e, .inl ⟨g, e, hg, he, by omega, rfl⟩, by omega⟩
  · exact ⟨x, .inl ⟨g, e, h1, he, h2, h3⟩, Int.le_refl _⟩
theorem clp_rng {k : Kn} {l : Lt} (ok : k.ok) (lo : l.ok) {x : Int} (h : ClP k l x) : 0 ≤ x ∧ x ≤ 1000 := by
  rcases h with ⟨g, e, h1, h2, h3, h4⟩ | ⟨j, p, h, h1, h2, h3, h4⟩ | ⟨h1, v, h2, h3⟩
  · have := ok.ends g h1
    have := lo.ends e h2
    have := lo.first
    omega
  · have := ok.rng _ (look_mem h3)
    have h5 : 0 ≤ x ∧ x < 1000 := ⟨this.1, this.2.1⟩
    omega
  · rcases all_cases h2 with q | ⟨_, j, hj, e⟩
    · have := ok.rng _ (look_mem q)
      have h5 : 0 ≤ x ∧ x < 1000 := ⟨this.1, this.2.1⟩
      omega
    · have h5 := (List.getElem?_eq_some_iff.mp hj).1
      have h6 := lo.first
      have h7 := lo.top
      omega
theorem mins_eq {k : Kn} {l : Lt} (ok : k.ok) (lo : l.ok) {m n : Int} (hm : BadP k l m) (hm2 : ∀ x, BadP k l x → m ≤ x) (hn : ClP k l n) (hn2 : ∀ x, ClP k l x → n ≤ x) : m = n := by
  obtain ⟨y, hy, h1⟩ := bad_cl ok lo hm
  obtain ⟨z, hz, h2⟩ := cl_bad ok lo hn
  have := hn2 y hy
  have := hm2 z hz
  omega
theorem good_put {k : Kn} {l : Lt} (ok : k.ok) (h : ∀ x, ¬ BadP k l x) : putAll k.row l.first l.row = all k l :=
  putAll_addAll ok.nd fun j p u hp hu => by
    by_cases e : u = p
    · exact e
    · exact absurd (.inl ⟨j, p, u, hp, rfl, held_of ok hu, e⟩) (h _)
theorem keys_all_rng {k : Kn} {l : Lt} (ok : k.ok) (lo : l.ok) {t v : Int} (h : look (all k l) t = some v) : 0 ≤ t ∧ t < 1000 ∧ 0 ≤ v ∧ v ≤ 63 := by
  rcases all_cases h with q | ⟨_, j, hj, e⟩
  · exact ok.rng _ (look_mem q)
  · have h1 := (List.getElem?_eq_some_iff.mp hj).1
    have h2 := lo.rng v (List.mem_of_getElem? hj)
    have h3 := lo.first
    have h4 := lo.top
    omega
theorem nd_all {k : Kn} (l : Lt) (ok : k.ok) : (keys (all k l)).Nodup := nodup_addAll ok.nd
theorem lrn_keys (k : Kn) (l : Lt) : keys (lrn k l).row = (srt (keys (all k l))).filter fun t => !behind (ende k l) t := by
  unfold keys lrn
  rw [List.map_map]
  exact List.map_id _
theorem lrn_ok {k : Kn} {l : Lt} (ok : k.ok) (lo : l.ok) : (lrn k l).ok := by
  have hmem : ∀ q ∈ (lrn k l).row, look (all k l) q.1 = some q.2 ∧ behind (ende k l) q.1 = false := fun q hq => by
    obtain ⟨t, ht, e⟩ := List.mem_map.mp hq
    obtain ⟨h1, h2⟩ := List.mem_filter.mp ht
    obtain ⟨v, hv⟩ := key_look ((srt_perm _).mem_iff.mp h1)
    rw [← e, hv]
    exact ⟨rfl, by simpa using h2⟩
  refine ⟨?_, fun q hq => keys_all_rng ok lo (hmem q hq).1, fun g hg => ?_⟩
  · rw [lrn_keys]
    refine List.Pairwise.filter _ ?_
    have nd : (srt (keys (all k l))).Nodup := (srt_perm _).nodup_iff.mpr (nd_all l ok)
    exact (srt_sorted _).imp₂ (fun a b h1 h2 => by omega) nd
  · have hg2 : ende k l = some g := hg
    refine ⟨?_, ?_, fun q hq => ?_⟩
    · unfold ende at hg2
      cases e : k.ends with
      | some g2 => rw [e] at hg2; cases hg2; exact (ok.ends g e).1
      | none => rw [e] at hg2; have := lo.ends g hg2; have := lo.first; omega
    · unfold ende at hg2
      cases e : k.ends with
      | some g2 => rw [e] at hg2; cases hg2; exact (ok.ends g e).2.1
      | none => rw [e] at hg2; have := lo.ends g hg2; omega
    · have := (hmem q hq).2
      rw [hg2] at this
      have h2 : ¬ g ≤ q.1 := of_decide_eq_false this
      omega
/-! ### letters that say nothing new -/
def Cons (k : Kn) (l : Lt) : Prop := (∀ (j : Nat) p, l.row[j]? = some p → held k (l.first + j) = some p) ∧ (l.ends = none ∨ l.ends = k.ends)
theorem look_lrn {k : Kn} {l : Lt} (ok : k.ok) {t v : Int} (h : look (all k l) t = some v) (hb : behind (ende k l) t = false) (lo : l.ok) : look (lrn k l).row t = some v := by
  refine look_of (lrn_ok ok lo).nd (List.mem_map.mpr ⟨t, List.mem_filter.mpr ⟨(srt_perm _).mem_iff.mpr (look_key h), by simp [hb]⟩, by rw [h]; rfl⟩)
theorem held_lrn {k : Kn} {l : Lt} (ok : k.ok) (lo : l.ok) (good : ∀ x, ¬ BadP k l x) {t h : Int} (hh : held k t = some h) : held (lrn k l) t = some h := by
  unfold held at hh
  have e0 : (lrn k l).ends = ende k l := rfl
  by_cases hb : behind k.ends t = true
  · rw [if_pos hb] at hh
    unfold held
    rw [e0]
    have : behind (ende k l) t = true := by
      unfold ende
      cases hg : k.ends with
      | none => rw [hg] at hb; cases hb
      | some g => rw [hg] at hb; exact hb
    rw [if_pos this]
    exact hh
  · rw [if_neg hb] at hh
    unfold held
    rw [e0]
    by_cases h2 : behind (ende k l) t = true
    · rw [if_pos h2]
      by_cases h0 : h = 0
      · rw [h0]
      · exfalso
        unfold ende at h2
        cases hg : k.ends with
        | some g => rw [hg] at h2 hb; exact hb h2
        | none =>
          rw [hg] at h2
          cases he : l.ends with
          | none => rw [he] at h2; cases h2
          | some e =>
            rw [he] at h2
            exact good t (.inr ⟨e, he, .inl ⟨h, look_mem hh, of_decide_eq_true h2, h0⟩⟩)
    · rw [if_neg h2]
      exact look_lrn ok (all_of hh) (by simpa using h2) lo
theorem cons_keep {k : Kn} {l m : Lt} (ok : k.ok) (lo : l.ok) (good : ∀ x, ¬ BadP k l x) (h : Cons k m) : Cons (lrn k l) m := by
  refine ⟨fun j p hp => held_lrn ok lo good (h.1 j p hp), ?_⟩
  rcases h.2 with e | e
  · exact .inl e
  · cases hg : k.ends with
    | none => exact .inl (by rw [e, hg])
    | some g =>
      right
      rw [e]
      show k.ends = ende k l
      unfold ende
      rw [hg]
theorem cons_new {k : Kn} {l : Lt} (ok : k.ok) (lo : l.ok) (good : ∀ x, ¬ BadP k l x) : Cons (lrn k l) l := by
  refine ⟨fun j p hp => ?_, ?_⟩
  · cases hh : held k (l.first + j) with
    | some h =>
      have e : h = p := by
        by_cases e : h = p
        · exact e
        · exact absurd (.inl ⟨j, p, h, hp, rfl, hh, e⟩) (good _)
      rw [held_lrn ok lo good hh, e]
    | none =>
      unfold held at hh
      by_cases hb : behind k.ends (l.first + j) = true
      · rw [if_pos hb] at hh
        cases hh
      · rw [if_neg hb] at hh
        have h1 := all_new hh hp
        have h2 : behind (ende k l) (l.first + j) = false := by
          unfold ende
          cases hg : k.ends with
          | some g => rw [hg] at hb; simpa using hb
          | none =>
            cases he : l.ends with
            | none => rfl
            | some e =>
              have := (lo.ends e he).1
              have := (List.getElem?_eq_some_iff.mp hp).1
              exact decide_eq_false (by omega)
        unfold held
        rw [show (lrn k l).ends = ende k l from rfl, if_neg (by rw [h2]; exact Bool.false_ne_true)]
        exact look_lrn ok h1 h2 lo
  · cases he : l.ends with
    | none => exact .inl rfl
    | some e =>
      right
      show some e = ende k l
      unfold ende
      cases hg : k.ends with
      | none => exact he.symm
      | some g =>
        by_cases q : g = e
        · rw [q]
        · exact absurd (.inr ⟨e, he, .inr ⟨g, hg, q, rfl⟩⟩) (good (min g e))
theorem cons_good {k : Kn} {l : Lt} (ok : k.ok) (h : Cons k l) : ∀ x, ¬ BadP k l x := by
  rintro x (⟨j, p, v, h1, h2, h3, h4⟩ | ⟨e, he, ⟨p, h1, h2, h3⟩ | ⟨g, h1, h2, h3⟩⟩)
  · rw [h2] at h3
    rw [h.1 j p h1] at h3
    exact h4 (Option.some.inj h3).symm
  · rcases h.2 with q | q
    · rw [q] at he; cases he
    · rw [he] at q
      have : x < e := (ok.ends e q.symm).2.2 _ h1
      omega
  · rcases h.2 with q | q
    · rw [q] at he; cases he
    · rw [he, h1] at q
      exact h2 (Option.some.inj q).symm
theorem filter_eq {α : Type} {p : α → Bool} {l : List α} (h : ∀ x ∈ l, p x = true) : l.filter p = l := List.filter_eq_self.mpr h
theorem cons_same {k : Kn} {l : Lt} (ok : k.ok) (lo : l.ok) (h : Cons k l) : lrn k l = k := by
  have hE : ende k l = k.ends := by
    unfold ende
    cases hg : k.ends with
    | some g => rfl
    | none =>
      rcases h.2 with q | q
      · exact q
      · rw [q, hg]
  have nb : ∀ t, t ∈ keys (all k l) → behind k.ends t = false → look k.row t = look (all k l) t ∧ t ∈ keys k.row := fun t ht hb => by
    obtain ⟨v, hv⟩ := key_look ht
    rcases all_cases hv with q | ⟨q, j, hj, e⟩
    · rw [q, hv]
      exact ⟨rfl, look_key q⟩
    · have := h.1 j v hj
      unfold held at this
      rw [← e, hb, if_neg Bool.false_ne_true, q] at this
      cases this
  have ek : keys (lrn k l).row = keys k.row := by
    refine sorted_eq ?_ (ok.asc.imp fun {a b} z => Int.le_of_lt z) ?_
    · exact (lrn_ok ok lo).asc.imp fun {a b} z => Int.le_of_lt z
    · have nd1 := (lrn_ok ok lo).nd
      have nd2 := ok.nd
      refine (List.perm_ext_iff_of_nodup nd1 nd2).mpr fun t => ?_
      rw [lrn_keys, List.mem_filter, (srt_perm _).mem_iff, hE]
      refine ⟨fun ⟨h1, h2⟩ => (nb t h1 (by simpa using h2)).2, fun ht => ?_⟩
      obtain ⟨v, hv⟩ := key_look ht
      exact ⟨look_key (all_of hv), by simp [notBehind ok hv]⟩
  have er : (lrn k l).row = k.row := by
    have e1 : (lrn k l).row = (keys (lrn k l).row).map fun t => (t, (look (all k l) t).getD 0) := by
      rw [lrn_keys]
      rfl
    rw [e1, ek]
    unfold keys
    rw [List.map_map]
    conv => rhs; rw [← List.map_id k.row]
    refine List.map_congr_left fun q hq => ?_
    have := all_of (l := l) (look_of ok.nd (show (q.1, q.2) ∈ k.row from hq))
    show (q.1, (look (all k l) q.1).getD 0) = q
    rw [this]
    rfl
  have : lrn k l = ⟨(lrn k l).row, (lrn k l).ends⟩ := rfl
  rw [this, er, show (lrn k l).ends = ende k l from rfl, hE]
end K50
set_option maxRecDepth 100000
set_option maxHeartbeats 2000000
/-! The program's way of learning. -/
namespace K50
open PySem PySem.Spec PyProof.Rows L2 KF KD
def ov : Option Int → V
  | none => .non
  | some n => .int n
/-- what is known, as it stands in the heap -/
def KnH (K : PySem.W.Frag) (H : Hp) (v : V) (k : Kn) : Prop := ∃ (t r : Addr) (ps : List Addr), v = .ref t ∧ SqT K H t [.ref r, ov k.ends] ∧ FzT H r (ps.map V.ref) ∧ Paired (fun p (e : Int × Int) => SqT K H p [.int e.1, .int e.2]) ps k.row
section
variable {P : Program} {w : World} {K : PySem.W.Frag} {mg : Str → Option Value} {base : Heap}
theorem nf' {b : Bool} (h : b = false) : ¬ b = true := by rw [h]; decide
def spWhole : Sp := fun vs H Q _ => ∃ n : Int, vs = [.int n] ∧ Q (.bl true) H
theorem scWh : FnScope ["told"] ["told"] (defScope s_is_whole) := ⟨rfl, rfl, rfl, by decide +kernel, rfl, by decide +kernel, by decide +kernel⟩
theorem ok_is_whole (T : Txt K w mg) : FnOk P w K mg base CX0 1 (He.fAd K ("is_whole", none)) (fdAt K (He.fAd K ("is_whole", none))) ["told"] spWhole := by
  refine T.F_is_whole.ok scWh (fun vs H Q E h => ?_) (fun cdv A outer s H vs Q E hr h => ?_)
  · obtain ⟨n, rfl, _⟩ := h
    rfl
  · obtain ⟨n, rfl, q⟩ := h
    refine ⟨_, PSs.nox (pss_one (ps_ret (pe_and (pe_callB (r := rIsi K) call_isi (by rfl) T.n_isinstance PyProof.Rows.Boot.«isinstance» (pa_cons (pv 0) (pa_cons (pe_bltn (v := .ty "int") (by rfl) T.n_int PyProof.Rows.Boot.«int» rfl) pa_nil))) (pe_one (pe_not (pe_callB (r := rIsi K) call_isi (by rfl) T.n_isinstance PyProof.Rows.Boot.«isinstance» (pa_cons (pv 0) (pa_cons (pe_bltn (v := .ty "bool") (by rfl) T.n_bool PyProof.Rows.Boot.«bool» rfl) pa_nil)))))))), ?_⟩
    refine ⟨_, rfl, _, _, _, _, _, rfl, .ty "int", .base (.int n), kit_ty (r := true) (by decide +kernel), _, rfl, iteT ?_⟩
    exact ⟨_, rfl, _, _, _, _, _, rfl, .ty "bool", .base (.int n), kit_ty (r := false) (by decide +kernel), _, rfl, q⟩
def spBetween : Sp := fun vs H Q _ => ∃ n lo hi : Int, vs = [.int n, .int lo, .int hi] ∧ lo ≤ n ∧ n ≤ hi ∧ Q (.bl true) H
theorem scBe : FnScope ["told", "low", "high"] ["told", "low", "high"] (defScope s_is_between) := ⟨rfl, rfl, rfl, by decide +kernel, rfl, by decide +kernel, by decide +kernel⟩
theorem ok_is_between (T : Txt K w mg) : FnOk P w K mg base CX0 2 (He.fAd K ("is_between", none)) (fdAt K (He.fAd K ("is_between", none))) ["told", "low", "high"] spBetween := by
  refine T.F_is_between.ok scBe (fun vs H Q E h => ?_) (fun cdv A outer s H vs Q E hr h => ?_)
  · obtain ⟨n, lo, hi, rfl, _⟩ := h
    rfl
  · obtain ⟨n, lo, hi, rfl, h1, h2, q⟩ := h
    refine ⟨_, PSs.nox (pss_one (ps_ret (pe_and (pe_call (ok_is_whole T) (hr.mono (by decide)) (by rfl) T.g_is_whole (T.F_is_whole).kp T.b_is_whole .nil pass0 (pa_cons (pv 0) pa_nil)) (pe_one (pe_chain op_le op_le (pv 1) (pv 0) (pv 2)))))), ?_⟩
    refine ⟨_, rfl, n, rfl, _, rfl, iteT ?_⟩
    refine ⟨_, rfl, _, rfl, _, _, rfl, rfl, _, rfl, ite2 (fun _ => ?_) (fun z => absurd (decide_eq_true h1) z)⟩
    refine ⟨_, rfl, _, _, rfl, rfl, ?_⟩
    show Q (V.bl (decide (n ≤ hi))) H
    rw [decide_eq_true h2]
    exact q
def spPress : Sp := fun vs H Q _ => ∃ n : Int, vs = [.int n] ∧ 0 ≤ n ∧ n ≤ 63 ∧ Q (.bl true) H
theorem scPr : FnScope ["told"] ["told"] (defScope s_is_press) := ⟨rfl, rfl, rfl, by decide +kernel, rfl, by decide +kernel, by decide +kernel⟩
theorem ok_is_press (T : Txt K w mg) : FnOk P w K mg base CX0 3 (He.fAd K ("is_press", none)) (fdAt K (He.fAd K ("is_press", none))) ["told"] spPress := by
  obtain ⟨uM, gM, rM⟩ := T.c_MOST_PRESS
  refine T.F_is_press.ok scPr (fun vs H Q E h => ?_) (fun cdv A outer s H vs Q E hr h => ?_)
  · obtain ⟨n, rfl, _⟩ := h
    rfl
  · obtain ⟨n, rfl, h1, h2, q⟩ := h
    refine ⟨_, PSs.nox (pss_one (ps_ret (pe_call (ok_is_between T) (hr.mono (by decide)) (by rfl) T.g_is_between (T.F_is_between).kp T.b_is_between .nil pass0 (pa_cons (pv 0) (pa_cons pe_int (pa_cons (pe_glob (v := .int 63) (by rfl) gM rM) pa_nil)))))), ?_⟩
    exact ⟨_, rfl, n, 0, 63, rfl, h1, h2, q⟩
def spTick : Sp := fun vs H Q _ => ∃ n : Int, vs = [.int n] ∧ 0 ≤ n ∧ Q (.bl true) H
theorem scTk : FnScope ["told"] ["told"] (defScope s_is_tick) := ⟨rfl, rfl, rfl, by decide +kernel, rfl, by decide +kernel, by decide +kernel⟩
theorem ok_is_tick (T : Txt K w mg) : FnOk P w K mg base CX0 2 (He.fAd K ("_is_tick", none)) (fdAt K (He.fAd K ("_is_tick", none))) ["told"] spTick := by
  refine T.F_is_tick.ok scTk (fun vs H Q E h => ?_) (fun cdv A outer s H vs Q E hr h => ?_)
  · obtain ⟨n, rfl, _⟩ := h
    rfl
  · obtain ⟨n, rfl, h1, q⟩ := h
    refine ⟨_, PSs.nox (pss_one (ps_ret (pe_and (pe_call (ok_is_whole T) (hr.mono (by decide)) (by rfl) T.g_is_whole (T.F_is_whole).kp T.b_is_whole .nil pass0 (pa_cons (pv 0) pa_nil)) (pe_one (pe_cmpR op_ge (pv 0) pe_int (nomark _)))))), ?_⟩
    refine ⟨_, rfl, n, rfl, _, rfl, iteT ?_⟩
    refine ⟨_, rfl, _, _, rfl, rfl, ?_⟩
    show Q (V.bl (decide (n ≥ 0))) H
    rw [decide_eq_true h1]
    exact q
theorem cut1 {ns : List Int} : cutV (ns.map V.int) (some 1) none = (ns.drop 1).map V.int := by
  unfold cutV
  rw [show (1 : Int) = ((1 : Nat) : Int) from rfl, HT.sIx_nat, HT.sIx_none, List.map_drop]
  cases ns with
  | nil => rfl
  | cons n ns =>
    rw [show min 1 (List.map V.int (n :: ns)).length = 1 by simp]
    exact List.take_of_length_le (by simp)
def spAsc (K : PySem.W.Frag) : Sp := fun vs H Q _ => ∃ (a : Addr) (ns : List Int), vs = [.ref a] ∧ SqL K H a (ns.map V.int) ∧ ns.Pairwise (· < ·) ∧ ns.length ≤ 1000 ∧ ∀ H', Same H H' → Q (.bl true) H'
theorem scAs : FnScope ["row", "one", "other"] ["row"] (defScope s_ascends) := ⟨rfl, rfl, rfl, by decide +kernel, rfl, by decide +kernel, by decide +kernel⟩
theorem ok_ascends (T : Txt K w mg) : FnOk P w K mg base CX0 1 (He.fAd K ("ascends", none)) (fdAt K (He.fAd K ("ascends", none))) ["row"] (spAsc K) := by
  refine T.F_ascends.ok scAs (fun vs H Q E h => ?_) (fun cdv A outer s H vs Q E hr h => ?_)
  · obtain ⟨a, ns, rfl, _⟩ := h
    rfl
  · obtain ⟨a, ns, rfl, hs, hp, hl, k⟩ := h
    refine ⟨_, PSs.nox (pss_one (ps_ret (pe_callB (cr_all rfl) (by rfl) T.n_all PyProof.Rows.Boot.«all» (pa_cons (pe_lc (own := [("one", 1), ("other", 2)]) (g := gTup K 2 (gCons (gName 1) (gCons (gName 2) gNil))) (tt := tYes) (by rfl) scAs.nd (pi_zip (by rfl) T.n_zip (pa_cons (pv 0) (pa_cons (pe_slice sl_list (pv 0) (po_some pe_int) po_none) pa_nil))) (blkOk_by (own := [("one", 1), ("other", 2)]) (N := ["row", "one", "other"]) (sc := defScope s_ascends) (by decide +kernel)) (fun _ _ _ _ _ => (pg_tup (by rfl) (pgs_cons (pg_name (i := 1) scAs.nd rfl (Or.inl rfl)) (pgs_cons (pg_name (i := 2) scAs.nd rfl (Or.inl rfl)) pgs_nil)))) (fun _ _ _ _ _ => pts_nil) (fun _ _ _ _ _ => (pe_cmpR op_lt (pv 1) (pv 2) (nomark _)))) pa_nil)))), ?_⟩
    refine ⟨_, rfl, _, rfl, _, rfl, a, _, rfl, hs, fun p np => ?_⟩
    rw [cut1]
    have s1 := new_same (o := .lst ((ns.drop 1).map V.int)) np
    refine ⟨a, p, _, _, rfl, s1.seq hs, SqL.of upd_same, fun D hD => ?_⟩
    have sD := new_same (o := .lst []) hD
    refine lc_it (walk_zip (K := K) (a := a) (b := p) (xs := ns.map V.int) (ys := (ns.drop 1).map V.int) rfl) (fun i H' => Same (upd H p (.lst ((ns.drop 1).map V.int))) H' ∧ H' D = some (.lst ((List.replicate i true).map V.bl))) ⟨sD, upd_same⟩ (fun i H' _ h => ⟨h.1.seq (s1.seq hs), h.1.seq (SqL.of upd_same)⟩) (fun i v H' H2 hi h y => ?_) (fun H' h => ?_)
    · obtain ⟨t, x, y, rfl, nt, rfl, hx, hy⟩ := y
      obtain ⟨sm, hl⟩ := h
      rw [List.length_map, List.length_map, List.length_drop] at hi
      have i1 : i < ns.length := by omega
      have i2 : i + 1 < ns.length := by omega
      replace hx : (ns.map V.int)[i]? = some x := hx
      replace hy : ((ns.drop 1).map V.int)[i]? = some y := hy
      rw [List.getElem?_map, List.getElem?_eq_getElem i1] at hx
      rw [List.getElem?_map, List.getElem?_drop, Nat.add_comm 1 i, List.getElem?_eq_getElem i2] at hy
      cases hx
      cases hy
      have lt : ns[i] < ns[i + 1] := List.pairwise_iff_getElem.mp hp i (i + 1) i1 i2 (by omega)
      refine ⟨t, _, rfl, SqT.of upd_same, rfl, _, _, rfl, _, _, rfl, rfl, ?_⟩
      refine ⟨rfl, ?_⟩
      dsimp only [tYes]
      rw [if_pos rfl]
      refine ⟨_, rfl, _, rfl, _, _, rfl, rfl, ?_⟩
      dsimp only
      rw [decide_eq_true lt]
      have st := new_same (o := .tup [V.int ns[i], V.int ns[i + 1]]) nt
      refine ⟨_, st _ _ hl, by rw [List.length_map, List.length_replicate]; exact Nat.lt_of_lt_of_le (show i < 1000 by omega) (by decide), fun b o z => ?_, ?_⟩
      · rw [upd_ne (ne_of_none z hD)]
        exact st _ _ (sm _ _ z)
      · rw [upd_same, List.replicate_succ', List.map_append]
        rfl
    · refine ⟨D, _, rfl, SqL.of h.2, ?_⟩
      rw [show ∀ n, (List.replicate n true).all id = true by intro n; simp]
      exact k H' (s1.trans h.1)
def spBetweenG : Sp := fun vs H Q _ => ∃ n lo hi : Int, vs = [.int n, .int lo, .int hi] ∧ Q (.bl (decide (lo ≤ n) && decide (n ≤ hi))) H
theorem ok_is_between_g (T : Txt K w mg) : FnOk P w K mg base CX0 2 (He.fAd K ("is_between", none)) (fdAt K (He.fAd K ("is_between", none))) ["told", "low", "high"] spBetweenG := by
  refine T.F_is_between.ok scBe (fun vs H Q E h => ?_) (fun cdv A outer s H vs Q E hr h => ?_)
  · obtain ⟨n, lo, hi, rfl, _⟩ := h
    rfl
  · obtain ⟨n, lo, hi, rfl, q⟩ := h
    refine ⟨_, PSs.nox (pss_one (ps_ret (pe_and (pe_call (ok_is_whole T) (hr.mono (by decide)) (by rfl) T.g_is_whole (T.F_is_whole).kp T.b_is_whole .nil pass0 (pa_cons (pv 0) pa_nil)) (pe_one (pe_chain op_le op_le (pv 1) (pv 0) (pv 2)))))), ?_⟩
    refine ⟨_, rfl, n, rfl, _, rfl, iteT ?_⟩
    refine ⟨_, rfl, _, rfl, _, _, rfl, rfl, _, rfl, ite2 (fun z => ?_) (fun z => ?_)⟩
    · refine ⟨_, rfl, _, _, rfl, rfl, ?_⟩
      rw [z, Bool.true_and] at q
      exact q
    · have z2 : decide (lo ≤ n) = false := by
        cases h : decide (lo ≤ n)
        · rfl
        · exact absurd h z
      rw [z2, Bool.false_and] at q
      exact q
def spPressG : Sp := fun vs H Q _ => ∃ n : Int, vs = [.int n] ∧ Q (.bl (decide (0 ≤ n) && decide (n ≤ 63))) H
theorem ok_is_press_g (T : Txt K w mg) : FnOk P w K mg base CX0 3 (He.fAd K ("is_press", none)) (fdAt K (He.fAd K ("is_press", none))) ["told"] spPressG := by
  obtain ⟨uM, gM, rM⟩ := T.c_MOST_PRESS
  refine T.F_is_press.ok scPr (fun vs H Q E h => ?_) (fun cdv A outer s H vs Q E hr h => ?_)
  · obtain ⟨n, rfl, _⟩ := h
    rfl
  · obtain ⟨n, rfl, q⟩ := h
    refine ⟨_, PSs.nox (pss_one (ps_ret (pe_call (ok_is_between_g T) (hr.mono (by decide)) (by rfl) T.g_is_between (T.F_is_between).kp T.b_is_between .nil pass0 (pa_cons (pv 0) (pa_cons pe_int (pa_cons (pe_glob (v := .int 63) (by rfl) gM rM) pa_nil)))))), ?_⟩
    exact ⟨_, rfl, n, 0, 63, rfl, q⟩
def spMade (K : PySem.W.Frag) : Sp := fun vs H Q _ => ∃ (p : Addr) (t v : Int) (e : Option Int), vs = [.ref p, ov e] ∧ SqT K H p [.int t, .int v] ∧ 0 ≤ t ∧ 0 ≤ v ∧ v ≤ 63 ∧ behind e t = false ∧ Q (.bl true) H
theorem scMd : FnScope ["made", "ends"] ["made", "ends"] (defScope s_is_made) := ⟨rfl, rfl, rfl, by decide +kernel, rfl, by decide +kernel, by decide +kernel⟩
theorem ok_is_made (T : Txt K w mg) : FnOk P w K mg base CX0 4 (He.fAd K ("_is_made", none)) (fdAt K (He.fAd K ("_is_made", none))) ["made", "ends"] (spMade K) := by
  refine T.F_is_made.ok scMd (fun vs H Q E h => ?_) (fun cdv A outer s H vs Q E hr h => ?_)
  · obtain ⟨p, t, v, e, rfl, _⟩ := h
    rfl
  · obtain ⟨p, t, v, e, rfl, sq, h0, h1, h2, hb, q⟩ := h
    refine ⟨_, PSs.nox (pss_cons (ps_if (PW.pt (pw_or (pt_not (pt_val (pe_callB (r := rIsi K) call_isi (by rfl) T.n_isinstance PyProof.Rows.Boot.«isinstance» (pa_cons (pv 0) (pa_cons (pe_bltn (v := .ty "tuple") (by rfl) T.n_tuple PyProof.Rows.Boot.«tuple» rfl) pa_nil))))) (pw_or (pt_cmpR op_ne (pe_callB (r := Evl.rLenS K) call_len_seq (by rfl) T.n_len PyProof.Rows.Boot.«len» (pa_cons (pv 0) pa_nil)) pe_int (nomark _)) (pw_or1 (pt_not (pt_val (pe_call (ok_is_tick T) (hr.mono (by decide)) (by rfl) T.g_is_tick (T.F_is_tick).kp T.b_is_tick .nil pass0 (pa_cons (pe_ix (r := rIxT K) ix_tup (pv 0) pe_int (fun _ _ => rfl)) pa_nil)))))))) (pss_one (ps_ret pe_bl)) pss_nil)
      (pss_one (ps_ret (pe_and (pe_call (ok_is_press T) (hr.mono (by decide)) (by rfl) T.g_is_press (T.F_is_press).kp T.b_is_press .nil pass0 (pa_cons (pe_ix (r := rIxT K) ix_tup (pv 0) pe_int (fun _ _ => rfl)) pa_nil)) (pe_one (pe_or (pe_cmpR op_isN (pv 1) pe_non (nomark _)) (pe_one (pe_cmpR op_lt (pe_ix (r := rIxT K) ix_tup (pv 0) pe_int (fun _ _ => rfl)) (pv 1) (nomark _))))))))), ?_⟩
    refine ⟨_, rfl, _, _, _, _, _, rfl, .ty "tuple", ty_tup sq, kit_ty (r := true) (by decide +kernel), _, rfl, iteF ?_⟩
    refine ⟨_, rfl, _, _, rfl, .inr sq, rfl, _, rfl, iteNS rfl ?_⟩
    refine ⟨_, rfl, p, _, _, _, rfl, rfl, sq, atI_nat (j := 0) rfl, t, rfl, h0, true, rfl, iteF ?_⟩
    refine ⟨_, rfl, p, _, _, _, rfl, rfl, sq, atI_nat (j := 1) rfl, v, rfl, h1, h2, _, rfl, iteT ?_⟩
    cases e with
    | none => exact ⟨_, rfl, rfl, _, rfl, iteT q⟩
    | some g =>
      refine ⟨_, rfl, rfl, _, rfl, iteF ⟨_, rfl, p, _, _, _, rfl, rfl, sq, atI_nat (j := 0) rfl, _, rfl, _, _, rfl, rfl, ?_⟩⟩
      have hg : t < g := by
        have : ¬ g ≤ t := of_decide_eq_false hb
        omega
      show Q (V.bl (decide (t < g))) H
      rw [decide_eq_true hg]
      exact q
theorem paired_at {α β : Type} {F : α → β → Prop} : ∀ {l : List α} {m : List β} {i : Nat} {x : α}, Paired F l m → l[i]? = some x → ∃ y, m[i]? = some y ∧ F x y
  | _, _, _, _, .nil, h => by cases h
  | _, _, 0, _, .cons a _, h => by cases h; exact ⟨_, rfl, a⟩
  | _ :: _, _ :: _, i + 1, _, .cons _ t, h => by
    obtain ⟨y, e, r⟩ := paired_at (i := i) t (by simpa using h)
    exact ⟨y, by simpa using e, r⟩
theorem ends_test {i : Nat} {e : Option Int} {σ : L2.St} {H : Hp} {F : Bool → Hp → Prop} (hv : σ[i]? = some (some (ov e))) (he : ∀ g, e = some g → 0 ≤ g) (h : F false H) :
    (tNot (tOr (tTest (tOp (fun x y H Q => y = V.non ∧ Q (V.bl (decide (x = V.non))) H) (tVar i) (tC V.non))) (tB (tCall spTick [] E0 (tCons (tVar i) tNil))))) σ H F := by
  cases e with
  | none => exact ⟨_, hv, rfl, _, rfl, iteT h⟩
  | some g => exact ⟨_, hv, rfl, _, rfl, iteF ⟨_, hv, g, rfl, he g rfl, _, rfl, h⟩⟩
def spKnown (K : PySem.W.Frag) : Sp := fun vs H Q _ => ∃ (v : V) (k : Kn), vs = [v] ∧ KnH K H v k ∧ k.ok ∧ ∀ H', Same H H' → Q (.bl true) H'
theorem scKn : FnScope ["told", "row", "ends", "made"] ["told"] (defScope s_is_known) := ⟨rfl, rfl, rfl, by decide +kernel, rfl, by decide +kernel, by decide +kernel⟩
theorem ok_is_known (T : Txt K w mg) : FnOk P w K mg base CX0 5 (He.fAd K ("is_known", none)) (fdAt K (He.fAd K ("is_known", none))) ["told"] (spKnown K) := by
  refine T.F_is_known.ok scKn (fun vs H Q E h => ?_) (fun cdv A outer s H vs Q E hr h => ?_)
  · obtain ⟨v, k, rfl, _⟩ := h
    rfl
  · obtain ⟨v, k, rfl, ⟨t, r, ps, rfl, sq, fz, prs⟩, ok, kk⟩ := h
    refine ⟨_, PSs.nox (pss_cons (ps_if (PW.pt (pw_or (pt_not (pt_val (pe_callB (r := rIsi K) call_isi (by rfl) T.n_isinstance PyProof.Rows.Boot.«isinstance» (pa_cons (pv 0) (pa_cons (pe_bltn (v := .ty "tuple") (by rfl) T.n_tuple PyProof.Rows.Boot.«tuple» rfl) pa_nil))))) (pw_or1 (pt_cmpR op_ne (pe_callB (r := Evl.rLenS K) call_len_seq (by rfl) T.n_len PyProof.Rows.Boot.«len» (pa_cons (pv 0) pa_nil)) pe_int (nomark _))))) (pss_one (ps_ret pe_bl)) pss_nil)
      (pss_cons (ps_asg (pv 0) (pg_tup (by rfl) (pgs_cons (pg_name (i := 1) scKn.nd rfl (Or.inl rfl)) (pgs_cons (pg_name (i := 2) scKn.nd rfl (Or.inr rfl)) pgs_nil))))
      (pss_cons (ps_if (PW.pt (pw_or (pt_not (pt_val (pe_callB (r := rIsi K) call_isi (by rfl) T.n_isinstance PyProof.Rows.Boot.«isinstance» (pa_cons (pv 1) (pa_cons (pe_bltn (v := .ty "tuple") (by rfl) T.n_tuple PyProof.Rows.Boot.«tuple» rfl) pa_nil))))) (pw_or1 (pt_not (PW.pt (pw_or (pt_cmpR op_isN (pv 2) pe_non (nomark _)) (pw_or1 (pt_val (pe_call (ok_is_tick T) (hr.mono (by decide)) (by rfl) T.g_is_tick (T.F_is_tick).kp T.b_is_tick .nil pass0 (pa_cons (pv 2) pa_nil)))))))))) (pss_one (ps_ret pe_bl)) pss_nil)
      (pss_one (ps_ret (pe_and (pe_callB (cr_all rfl) (by rfl) T.n_all PyProof.Rows.Boot.«all» (pa_cons (pe_lc (own := [("made", 3)]) (g := gName 3) (tt := tYes) (by rfl) scKn.nd (pi_tup (pv 1)) (blkOk_by (own := [("made", 3)]) (N := ["told", "row", "ends", "made"]) (sc := defScope s_is_known) (by decide +kernel)) (fun _ _ _ _ _ => pg_name (i := 3) scKn.nd rfl (Or.inl rfl)) (fun _ _ _ _ _ => pts_nil) (fun _ _ _ _ _ => (pe_call (ok_is_made T) (hr.mono (by decide)) (by rfl) T.g_is_made (T.F_is_made).kp T.b_is_made .nil pass0 (pa_cons (pv 3) (pa_cons (pv 2) pa_nil))))) pa_nil)) (pe_one (pe_call (ok_ascends T) (hr.mono (by decide)) (by rfl) T.g_ascends (T.F_ascends).kp T.b_ascends .nil pass0 (pa_cons (pe_lc (own := [("made", 3)]) (g := gName 3) (tt := tYes) (by rfl) scKn.nd (pi_tup (pv 1)) (blkOk_by (own := [("made", 3)]) (N := ["told", "row", "ends", "made"]) (sc := defScope s_is_known) (by decide +kernel)) (fun _ _ _ _ _ => pg_name (i := 3) scKn.nd rfl (Or.inl rfl)) (fun _ _ _ _ _ => pts_nil) (fun _ _ _ _ _ => (pe_ix (r := rIxT K) ix_tup (pv 3) pe_int (fun _ _ => rfl)))) pa_nil))))))))), ?_⟩
    refine ⟨_, rfl, _, _, _, _, _, rfl, .ty "tuple", ty_tup sq, kit_ty (r := true) (by decide +kernel), _, rfl, iteF ?_⟩
    refine ⟨_, rfl, _, _, rfl, .inr sq, rfl, _, rfl, iteNS rfl ?_⟩
    refine ⟨_, rfl, t, _, rfl, sq, rfl, _, _, rfl, _, _, rfl, rfl, ?_⟩
    refine ⟨_, rfl, _, _, _, _, _, rfl, .ty "tuple", ty_tup fz.sq, kit_ty (r := true) (by decide +kernel), _, rfl, iteF ?_⟩
    refine ends_test (e := k.ends) rfl (fun g hg => (ok.ends g hg).1) (iteF ?_)
    refine ⟨_, rfl, r, rfl, ⟨_, fz.sq⟩, fun D hD => ?_⟩
    have hl := Paired.length prs
    have hk := ok.len
    have sD := new_same (o := .lst []) hD
    refine lc_tup (xs := ps.map V.ref) (fun i H' => Same H H' ∧ H' D = some (.lst ((List.replicate i true).map V.bl))) ⟨sD, upd_same⟩ (fun i H' _ h => (same_tf h.1).sq fz.sq) (fun i x H' hx h => ?_) (fun H' h => ?_)
    · obtain ⟨sm, hacc⟩ := h
      rw [List.getElem?_map] at hx
      cases hp : ps[i]? with
      | none => rw [hp] at hx; cases hx
      | some p =>
        rw [hp] at hx
        cases hx
        obtain ⟨e, he, hq⟩ := paired_at prs hp
        have hi := (List.getElem?_eq_some_iff.mp he).1
        have hm := List.mem_of_getElem? he
        have rg := ok.rng e hm
        have nb : behind k.ends e.1 = false := notBehind ok (look_of ok.nd (show (e.1, e.2) ∈ k.row from hm))
        refine ⟨rfl, ?_⟩
        dsimp only [tYes]
        rw [if_pos rfl]
        refine ⟨_, rfl, _, rfl, p, e.1, e.2, k.ends, rfl, (same_tf sm).sq hq, rg.1, rg.2.2.1, rg.2.2.2, nb, ?_⟩
        refine ⟨_, hacc, by rw [List.length_map, List.length_replicate]; exact Nat.lt_of_lt_of_le (show i < 1001 by omega) (by decide), fun b o z => ?_, ?_⟩
        · rw [upd_ne (ne_of_none z hD)]
          exact sm _ _ z
        · rw [upd_same, List.replicate_succ', List.map_append]
          rfl
    refine ⟨D, _, rfl, SqL.of h.2, ?_⟩
    rw [show ∀ n, (List.replicate n true).all id = true by intro n; simp]
    refine ⟨_, rfl, iteT ?_⟩
    have s1 := h.1
    refine ⟨_, rfl, r, rfl, ⟨_, (same_tf s1).sq fz.sq⟩, fun D2 hD2 => ?_⟩
    refine lc_tup (xs := ps.map V.ref) (fun i H2 => Same H' H2 ∧ H2 D2 = some (.lst (((keys k.row).take i).map V.int))) ⟨new_same hD2, upd_same⟩ (fun i H2 _ h => (same_tf (s1.trans h.1)).sq fz.sq) (fun i x H2 hx h => ?_) (fun H2 h => ?_)
    · obtain ⟨sm, hacc⟩ := h
      rw [List.getElem?_map] at hx
      cases hp : ps[i]? with
      | none => rw [hp] at hx; cases hx
      | some p =>
        rw [hp] at hx
        cases hx
        obtain ⟨e, he, hq⟩ := paired_at prs hp
        have hi := (List.getElem?_eq_some_iff.mp he).1
        refine ⟨rfl, ?_⟩
        dsimp only [tYes]
        rw [if_pos rfl]
        refine ⟨_, rfl, p, _, _, _, rfl, rfl, (same_tf (s1.trans sm)).sq hq, atI_nat (j := 0) rfl, ?_⟩
        have hke : (keys k.row)[i]? = some e.1 := by
          unfold keys
          rw [List.getElem?_map, he]
          rfl
        refine ⟨_, hacc, by rw [List.length_map, List.length_take]; exact Nat.lt_of_lt_of_le (show min i (keys k.row).length < 1001 by omega) (by decide), fun b o z => ?_, ?_⟩
        · rw [upd_ne (ne_of_none z hD2)]
          exact sm _ _ z
        · rw [upd_same, List.take_add_one, hke, List.map_append]
          rfl
    have hlk : (keys k.row).length = k.row.length := List.length_map _
    have hfin : (keys k.row).take (ps.map V.ref).length = keys k.row := List.take_of_length_le (by rw [List.length_map, hlk, hl]; exact Nat.le_refl _)
    have h2 := h.2
    rw [hfin] at h2
    exact ⟨D2, keys k.row, rfl, SqL.of h2, ok.asc, by rw [hlk]; exact hk, fun H3 s3 => kk H3 ((s1.trans h.1).trans s3)⟩
end
end K50
set_option maxRecDepth 100000
set_option maxHeartbeats 4000000
/-! Letters of what is known. -/
namespace K50
open PySem PySem.Spec PyProof.Rows L2 KF KD
abbrev Kd := Int × Int
def dk (r : Rw) : List (Key × V) := r.map fun e => (Sum.inl e.1, V.int e.2)
theorem dk_val (r : Rw) (t : Int) : valV (dk r) (.inl t) = (look r t).map V.int := by
  unfold valV dk look
  rw [List.find?_map]
  have : ((fun kv : Key × V => decide (kv.1 = Sum.inl t)) ∘ fun e : Int × Int => ((Sum.inl e.1 : Key), V.int e.2)) = fun e : Int × Int => decide (e.1 = t) := by
    funext e
    show decide ((Sum.inl e.1 : Key) = Sum.inl t) = decide (e.1 = t)
    by_cases h : e.1 = t
    · rw [decide_eq_true h, decide_eq_true (by rw [h])]
    · rw [decide_eq_false h, decide_eq_false (fun z => h (Sum.inl.inj z))]
  rw [this]
  cases r.find? fun e => decide (e.1 = t) <;> rfl
theorem dk_put (r : Rw) (t v : Int) : putK (dk r) (.inl t) (.int v) = dk (putr r t v) := by
  have ha : ((dk r).any fun kv => decide (kv.1 = (Sum.inl t : Key))) = r.any fun e => decide (e.1 = t) := by
    unfold dk
    rw [List.any_map]
    congr 1
    funext e
    show decide ((Sum.inl e.1 : Key) = Sum.inl t) = decide (e.1 = t)
    by_cases h : e.1 = t
    · rw [decide_eq_true h, decide_eq_true (by rw [h])]
    · rw [decide_eq_false h, decide_eq_false (fun z => h (Sum.inl.inj z))]
  unfold putK putr
  rw [ha]
  split
  · unfold dk
    rw [List.map_map, List.map_map]
    refine List.map_congr_left fun e _ => ?_
    show (if (Sum.inl e.1 : Key) = Sum.inl t then ((Sum.inl e.1 : Key), V.int v) else (Sum.inl e.1, V.int e.2)) = _
    by_cases h : e.1 = t
    · rw [if_pos (by rw [h])]
      show _ = ((Sum.inl (if e.1 = t then (e.1, v) else e).1 : Key), V.int (if e.1 = t then (e.1, v) else e).2)
      rw [if_pos h]
    · rw [if_neg (fun z => h (Sum.inl.inj z))]
      show _ = ((Sum.inl (if e.1 = t then (e.1, v) else e).1 : Key), V.int (if e.1 = t then (e.1, v) else e).2)
      rw [if_neg h]
  · unfold dk
    rw [List.map_append]
    rfl
theorem put_new {r : Rw} {t v : Int} (h : look r t = none) : putr r t v = r ++ [(t, v)] := by
  unfold putr
  rw [if_neg (by
    rw [List.any_eq_true]
    rintro ⟨q, hq, hd⟩
    exact look_none h (List.mem_map.mpr ⟨q, hq, of_decide_eq_true hd⟩))]
theorem dk_len (r : Rw) : (dk r).length = r.length := List.length_map _
theorem dk_keys (r : Rw) : (dk r).map (·.1) = (keys r).map Sum.inl := by
  unfold dk keys
  rw [List.map_map, List.map_map]
  rfl
theorem paired_app {α β : Type} {F : α → β → Prop} : ∀ {l1 : List α} {m1 : List β} {l2 : List α} {m2 : List β}, Paired F l1 m1 → Paired F l2 m2 → Paired F (l1 ++ l2) (m1 ++ m2)
  | [], [], _, _, .nil, h => h
  | _ :: _, _ :: _, _, _, .cons a t, h => .cons a (paired_app t h)
theorem TF.of_lst {H : Hp} {p : Addr} {o : HO} {xs : List V} (h : H p = some (.lst xs)) : TF H (upd H p o) := fun c ys z => by
  rcases z with z | ⟨u, z⟩
  · exact .inl (by rw [upd_ne (fun q => by rw [q, h] at z; cases z)]; exact z)
  · exact .inr ⟨u, by rw [upd_ne (fun q => by rw [q, h] at z; cases z)]; exact z⟩
theorem dk_at {r : Rw} {i : Nat} {y : Key} {v : V} (h : (dk r)[i]? = some (y, v)) : ∃ a : Int × Int, r[i]? = some a ∧ y = .inl a.1 ∧ v = .int a.2 := by
  unfold dk at h
  rw [List.getElem?_map] at h
  cases e : r[i]? with
  | none => rw [e] at h; cases h
  | some a =>
    rw [e] at h
    cases h
    exact ⟨a, rfl, rfl, rfl⟩
theorem seq_cut {a b : TS} {D : Ends} {σ : L2.St} {H : Hp} (Pv : L2.St → Hp → Prop) (hb : ∀ σ' H', Pv σ' H' → b D σ' H') (ha : ∀ R : L2.St → Hp → Prop, (∀ σ' H', Pv σ' H' → R σ' H') → a { D with nx := R } σ H) : tSeq a b D σ H := ha _ hb
theorem dec_ov (e : Option Int) (x : Int) : decide (ov e = V.int x) = decide (e = some x) := by
  cases e with
  | none => rfl
  | some g =>
    show decide (V.int g = V.int x) = _
    rw [dec_int]
    by_cases h : g = x
    · simp [h]
    · simp [h]
theorem scal_ov (e : Option Int) (x : Int) : scal (ov e) (.int x) = true := by cases e <;> rfl
structure Le where
  house : Int
  first : Int
  row : List Int
  ends : Option Int
  heard : List Int
def LeH (K : PySem.W.Frag) (H : Hp) (v : V) (l : Le) : Prop := ∃ t r h : Addr, v = .ref t ∧ SqT K H t [.int l.house, .int l.first, .ref r, ov l.ends, .ref h] ∧ SqT K H r (l.row.map V.int) ∧ SqT K H h (l.heard.map V.int)
theorem LeH.tf {K : PySem.W.Frag} {H H' : Hp} {v : V} {l : Le} (e : TF H H') (h : LeH K H v l) : LeH K H' v l := by
  obtain ⟨t, r, g, e1, e2, e3, e4⟩ := h
  exact ⟨t, r, g, e1, e.sq e2, e.sq e3, e.sq e4⟩
def rrun (r : Rw) (f : Int) : Nat → List Int
  | 0 => []
  | n + 1 => match look r f with
    | some v => v :: rrun r (f + 1) n
    | none => []
theorem rr_none {r : Rw} {f : Int} {n : Nat} (h : look r f = none ∨ n = 0) : rrun r f n = [] := by
  cases n with
  | zero => rfl
  | succ n =>
    rcases h with h | h
    · unfold rrun
      rw [h]
    · cases h
theorem rr_some {r : Rw} {f v : Int} {n : Nat} (h : look r f = some v) : rrun r f (n + 1) = v :: rrun r (f + 1) n := by
  conv => lhs; unfold rrun
  rw [h]
theorem rr_len (r : Rw) (f : Int) (n : Nat) : (rrun r f n).length ≤ n := by
  induction n generalizing f with
  | zero => exact Nat.le_refl _
  | succ n ih =>
    cases h : look r f with
    | none => rw [rr_none (.inl h)]; exact Nat.zero_le _
    | some v =>
      rw [rr_some h, List.length_cons]
      exact Nat.succ_le_succ (ih _)
theorem rr_mem {r : Rw} {f : Int} {n : Nat} {p : Int} (h : p ∈ rrun r f n) : ∃ t, (t, p) ∈ r := by
  induction n generalizing f with
  | zero => cases h
  | succ n ih =>
    cases e : look r f with
    | none => rw [rr_none (.inl e)] at h; cases h
    | some v =>
      rw [rr_some e] at h
      rcases List.mem_cons.mp h with h | h
      · rw [h]
        exact ⟨_, look_mem e⟩
      · exact ih h
/-- so far, and what comes -/
def Sof (r : Rw) (f : Int) (ns : List Int) : Prop := ns.length ≤ 32 ∧ ns ++ rrun r (f + ns.length) (32 - ns.length) = rrun r f 32
theorem sof_0 (r : Rw) (f : Int) : Sof r f [] := ⟨Nat.zero_le _, by simp⟩
theorem sof_next {r : Rw} {f v : Int} {ns : List Int} (h : Sof r f ns) (hl : ns.length < 32) (hv : look r (f + ns.length) = some v) : Sof r f (ns ++ [v]) := by
  refine ⟨by rw [List.length_append, List.length_singleton]; omega, ?_⟩
  rw [← h.2]
  have e : 32 - ns.length = (31 - ns.length) + 1 := by omega
  rw [e, rr_some hv, List.length_append, List.length_singleton, List.append_assoc]
  have e2 : f + ((ns.length + 1 : Nat) : Int) = f + (ns.length : Int) + 1 := by omega
  have e3 : 32 - (ns.length + 1) = 31 - ns.length := by omega
  rw [e2, e3]
  rfl
theorem sof_end {r : Rw} {f : Int} {ns : List Int} (h : Sof r f ns) (he : look r (f + ns.length) = none ∨ ns.length = 32) : ns = rrun r f 32 := by
  rw [← h.2, rr_none (he.imp id fun h => by omega), List.append_nil]
def theL (k : Kn) (house first : Int) (heard : List Int) : Le := ⟨house, first, rrun k.row first 32, if k.ends = some (first + ((rrun k.row first 32).length : Nat)) then k.ends else none, heard⟩
section
variable {P : Program} {w : World} {K : PySem.W.Frag} {mg : Str → Option Value} {base : Heap}
theorem KnH.tf {H H' : Hp} {v : V} {k : Kn} (s : Same H H') (h : KnH K H v k) : KnH K H' v k := by
  obtain ⟨t, r, ps, e, sq, ⟨ob, od, fz⟩, prs⟩ := h
  exact ⟨t, r, ps, e, (same_tf s).sq sq, ⟨ob, od, s _ _ fz⟩, L2.Paired.mapP prs fun _ _ z => (same_tf s).sq z⟩
theorem look_dk {H : Hp} {D : Addr} {r : Rw} {t : Int} (h : Rd H D (.dK (dk r))) : DGet H D (.int t) ((look r t).map V.int) := .inl ⟨dk r, .inl t, h, rfl, (dk_val r t).symm⟩
def spLo (K : PySem.W.Frag) : Sp := fun vs H Q _ => ∃ (house first : Int) (v : V) (h : Addr) (k : Kn) (hs : List Int), vs = [.int house, v, .int first, .ref h] ∧ KnH K H v k ∧ k.ok ∧ SqT K H h (hs.map V.int) ∧ ∀ u H', Same H H' → LeH K H' u (theL k house first hs) → Q u H'
theorem scLo : FnScope ["house", "known", "first", "heard", "presses", "tick", "press", "row", "ends"] ["house", "known", "first", "heard"] (defScope s_letter_of) := ⟨rfl, rfl, rfl, by decide +kernel, rfl, by decide +kernel, by decide +kernel⟩
theorem ok_letter_of (T : Txt K w mg) : FnOk P w K mg base CX0 1 (He.fAd K ("letter_of", none)) (fdAt K (He.fAd K ("letter_of", none))) ["house", "known", "first", "heard"] (spLo K) := by
  obtain ⟨uM, gM, rM⟩ := T.c_MOST_PRESSES
  refine T.F_letter_of.ok scLo (fun vs H Q E h => ?_) (fun cdv A outer s H vs Q E hr h => ?_)
  · obtain ⟨house, first, v, h, k, hs, rfl, _⟩ := h
    rfl
  · obtain ⟨house, first, v, h, k, hs, rfl, hk, ok, hh, kk⟩ := h
    have hu := Nat.lt_of_le_of_lt (Nat.add_le_add_left (by decide : 1 ≤ 64) _) hr.units
    refine ⟨_, PSs.nox (pss_cons (KH.ps_setDc (i := 4) (own := [("tick", 5), ("press", 6)]) (g := gTup K 2 (gCons (gName 5) (gCons (gName 6) gNil))) (tt := tYes) rfl scLo.nd rfl rfl (KH.sw_trueD rfl rfl rfl (by decide +kernel)) (pi_tup (pe_ix (r := rIxT K) ix_tup (pv 1) pe_int (fun _ _ => rfl))) (blkOk_by (own := [("tick", 5), ("press", 6)]) (N := ["house", "known", "first", "heard", "presses", "tick", "press", "row", "ends"]) (sc := defScope s_letter_of) (by decide +kernel)) (fun _ _ _ _ _ => pg_tup (by rfl) (pgs_cons (pg_name (i := 5) scLo.nd rfl (Or.inl rfl)) (pgs_cons (pg_name (i := 6) scLo.nd rfl (Or.inl rfl)) pgs_nil))) (fun _ _ _ _ _ => pts_nil) (fun _ _ _ _ _ => pv 5) (fun _ _ _ _ _ => pv 6))
      (pss_cons (ps_set (i := 7) scLo.nd rfl (Or.inl rfl) (pe_lst pa_nil))
      (pss_cons (ps_while PassesOwn.never (PW.pt (pw_and (pt_cmp (pc_din hu (pe_op op_add (pv 2) (pe_callB (r := Evl.rLenS K) call_len_seq (by rfl) T.n_len PyProof.Rows.Boot.«len» (pa_cons (pv 7) pa_nil))) (pv 4))) (pw_and1 (pt_cmpR op_lt (pe_callB (r := Evl.rLenS K) call_len_seq (by rfl) T.n_len PyProof.Rows.Boot.«len» (pa_cons (pv 7) pa_nil)) (pe_glob (v := .int 32) (by rfl) gM rM) (nomark _))))) (pss_one (ps_expr (pe_bm PySem.F.plainAttrs_list PySem.F.slot_list_append PySem.F.type_list_append mt_append (pv 7) (pa_cons (pe_dget hu (pv 4) (pe_op op_add (pv 2) (pe_callB (r := Evl.rLenS K) call_len_seq (by rfl) T.n_len PyProof.Rows.Boot.«len» (pa_cons (pv 7) pa_nil))) (fun _ _ => rfl)) pa_nil)))))
      (pss_cons (ps_set (i := 8) scLo.nd rfl (Or.inl rfl) (pe_ifExp (pt_cmpR op_eq (pe_ix (r := rIxT K) ix_tup (pv 1) pe_int (fun _ _ => rfl)) (pe_op op_add (pv 2) (pe_callB (r := Evl.rLenS K) call_len_seq (by rfl) T.n_len PyProof.Rows.Boot.«len» (pa_cons (pv 7) pa_nil))) (nomark _)) (pe_ix (r := rIxT K) ix_tup (pv 1) pe_int (fun _ _ => rfl)) pe_non))
      (pss_one (ps_ret (pe_tup (pa_cons (pv 0) (pa_cons (pv 2) (pa_cons (pe_callTy call_tuple_of (by rfl) T.n_tuple PyProof.Rows.Boot.«tuple» (pa_cons (pv 7) pa_nil)) (pa_cons (pv 8) (pa_cons (pv 3) pa_nil)))))))))))), ?_⟩
    obtain ⟨t, r0, ps, rfl, sq, fz, prs⟩ := hk
    refine ⟨_, rfl, t, _, _, _, rfl, rfl, sq, atI_nat (j := 0) rfl, r0, rfl, ⟨_, fz.sq⟩, fun D hD => ?_⟩
    have hpl := Paired.length prs
    have hkl := ok.len
    have sD := new_same (o := .dK []) hD
    refine dc_tup (xs := ps.map V.ref) (fun i H' => Same H H' ∧ H' D = some (.dK (dk (k.row.take i)))) ⟨sD, upd_same⟩ (fun i H' _ h => (same_tf h.1).sq fz.sq) (fun i x H' hx h => ?_) (fun H3 h => ?_)
    · obtain ⟨sm, hd⟩ := h
      rw [List.getElem?_map] at hx
      cases hp : ps[i]? with
      | none => rw [hp] at hx; cases hx
      | some q =>
        rw [hp] at hx
        cases hx
        obtain ⟨e, he, hq⟩ := paired_at prs hp
        have hi := (List.getElem?_eq_some_iff.mp he).1
        refine ⟨q, _, rfl, (same_tf sm).sq hq, rfl, _, _, rfl, _, _, rfl, rfl, ?_⟩
        refine ⟨rfl, ?_⟩
        dsimp only [tYes]
        rw [if_pos rfl]
        refine ⟨_, rfl, _, rfl, dk (k.row.take i), .inl e.1, rfl, hd, by rw [dk_len, List.length_take]; exact Nat.lt_of_lt_of_le (show min i k.row.length < 1001 by omega) (by decide), fun b o z => ?_, ?_⟩
        · rw [upd_ne (ne_of_none z hD)]
          exact sm _ _ z
        · rw [upd_same, dk_put, put_new, List.take_add_one, he]
          · rfl
          · cases hl : look (k.row.take i) e.1 with
            | none => rfl
            | some w =>
              exfalso
              obtain ⟨j, hj⟩ := List.mem_iff_getElem?.mp (look_mem hl)
              rw [List.getElem?_take] at hj
              split at hj
              · rename_i hji
                have hjl := (List.getElem?_eq_some_iff.mp hj)
                have hil := (List.getElem?_eq_some_iff.mp he)
                have := List.pairwise_iff_getElem.mp ok.asc j i (by unfold keys; rw [List.length_map]; exact hjl.1) (by unfold keys; rw [List.length_map]; exact hi) hji
                unfold keys at this
                rw [List.getElem_map, List.getElem_map, hjl.2, hil.2] at this
                exact absurd this (by show ¬ e.1 < e.1; omega)
              · cases hj
    obtain ⟨s3, hd3⟩ := h
    have hfull : k.row.take (ps.map V.ref).length = k.row := List.take_of_length_le (by rw [List.length_map, hpl]; exact Nat.le_refl _)
    rw [hfull] at hd3
    refine ⟨(show 0 ≤ sizeLine by decide), fun L nL => ?_⟩
    have sL := new_same (o := .lst []) nL
    have nDL : D ≠ L := fun z => by rw [← z, hd3] at nL; cases nL
    have s4 := s3.trans sL
    dsimp only
    refine seq_cut (fun σ H' => σ = [some (.int house), some (.ref t), some (.int first), some (.ref h), some (.ref D), none, none, some (.ref L), none] ∧ H' L = some (.lst ((rrun k.row first 32).map V.int)) ∧ Same H H') (fun σ H' h => ?_) (fun R hR => ?_)
    · obtain ⟨rfl, hL, sm⟩ := h
      have tf := same_tf sm
      refine ⟨_, rfl, t, _, _, _, rfl, rfl, tf.sq sq, atI_nat (j := 1) rfl, _, rfl, _, rfl, L, _, rfl, .inl (SqL.of hL), _, _, rfl, rfl, scal_ov _ _, _, rfl, ?_⟩
      rw [dec_ov, List.length_map]
      have fin : ∀ e : Option Int, e = (theL k house first hs).ends → ∀ q, H' q = none → ∀ u, (upd H' q (.tup ((rrun k.row first 32).map V.int))) u = none → Q (.ref u) (upd (upd H' q (.tup ((rrun k.row first 32).map V.int))) u (.tup [.int house, .int first, .ref q, ov e, .ref h])) := fun e he q nq u nu => by
        have s1 := new_same (o := .tup ((rrun k.row first 32).map V.int)) nq
        have s2 := new_same (o := .tup [.int house, .int first, .ref q, ov e, .ref h]) nu
        refine kk _ _ ((sm.trans s1).trans s2) ⟨u, q, h, rfl, ?_, (same_tf s2).sq (SqT.of upd_same), (same_tf ((sm.trans s1).trans s2)).sq hh⟩
        rw [← he]
        exact SqT.of upd_same
      refine ite2 (fun z => ?_) (fun z => ?_)
      · have hz := of_decide_eq_true z
        refine ⟨_, rfl, t, _, _, _, rfl, rfl, tf.sq sq, atI_nat (j := 1) rfl, ?_⟩
        refine ⟨_, rfl, _, rfl, _, rfl, L, _, rfl, .inl ⟨SqL.of hL, fun q nq => ⟨_, rfl, _, rfl, (show 5 ≤ sizeLine by decide), fun u nu => ?_⟩⟩⟩
        exact fin k.ends (by unfold theL; rw [if_pos hz]) q nq u nu
      · have hz : ¬ k.ends = some (first + ((rrun k.row first 32).length : Nat)) := fun w => z (decide_eq_true w)
        refine ⟨_, rfl, _, rfl, _, rfl, L, _, rfl, .inl ⟨SqL.of hL, fun q nq => ⟨_, rfl, _, rfl, (show 5 ≤ sizeLine by decide), fun u nu => ?_⟩⟩⟩
        exact fin none (by unfold theL; rw [if_neg hz]) q nq u nu
    · refine ⟨fun m σ H' => ∃ ns : List Int, σ = [some (.int house), some (.ref t), some (.int first), some (.ref h), some (.ref D), none, none, some (.ref L), none] ∧ m = 32 - ns.length ∧ Sof k.row first ns ∧ H' L = some (.lst (ns.map V.int)) ∧ H' D = some (.dK (dk k.row)) ∧ Same H H', ⟨32, [], rfl, rfl, sof_0 _ _, upd_same, sL _ _ hd3, s4⟩, fun m σ H' hW => ?_⟩
      obtain ⟨ns, rfl, rfl, hs', hL, hDd, sm⟩ := hW
      refine ⟨_, rfl, _, rfl, L, _, rfl, .inl (SqL.of hL), _, _, rfl, rfl, _, rfl, D, _, rfl, look_dk (.inl hDd), _, rfl, ?_⟩
      rw [List.length_map]
      cases e : look k.row (first + (ns.length : Nat)) with
      | none =>
        refine iteF (iteF (hR _ _ ⟨rfl, ?_, sm⟩))
        rw [← sof_end hs' (.inl e)]
        exact hL
      | some v =>
        refine iteT ?_
        refine ⟨_, rfl, L, _, rfl, .inl (SqL.of hL), _, _, rfl, rfl, _, rfl, ?_⟩
        rw [List.length_map]
        refine ite2 (fun z => ?_) (fun z => ?_)
        · have hlt : (ns.length : Int) < 32 := of_decide_eq_true z
          refine ⟨fun σ' H2 => σ' = [some (.int house), some (.ref t), some (.int first), some (.ref h), some (.ref D), none, none, some (.ref L), none] ∧ H2 L = some (.lst ((ns ++ [v]).map V.int)) ∧ H2 D = some (.dK (dk k.row)) ∧ Same H H2, fun σ' H2 ⟨e1, e2, e3, e4⟩ => ⟨32 - (ns ++ [v]).length, by rw [List.length_append, List.length_singleton]; omega, ns ++ [v], e1, rfl, sof_next hs' (by omega) e, e2, e3, e4⟩, ?_⟩
          refine ⟨_, rfl, .inl ⟨rfl, _, SqL.of hL⟩, _, rfl, _, rfl, _, rfl, L, _, rfl, .inl (SqL.of hL), _, _, rfl, rfl, D, .int v, rfl, ?_, ?_⟩
          · rw [List.length_map]
            have := look_dk (t := first + (ns.length : Nat)) (.inl hDd)
            rw [e] at this
            exact this
          · refine ⟨L, _, _, rfl, rfl, hL, by rw [List.length_map]; exact Nat.lt_of_lt_of_le (show ns.length < 100 by omega) (by decide), rfl, ?_, by rw [upd_ne nDL]; exact hDd, fun b o z => by rw [upd_ne (ne_of_none (s3 _ _ z) nL)]; exact sm _ _ z⟩
            rw [upd_same, List.map_append]
            rfl
        · refine hR _ _ ⟨rfl, ?_, sm⟩
          have hge : ¬ (ns.length : Int) < 32 := fun w => z (decide_eq_true w)
          rw [← sof_end hs' (.inr (by have := hs'.1; omega))]
          exact hL
end
end K50
set_option maxRecDepth 100000
set_option maxHeartbeats 4000000
/-! What a letter is, and how great. -/
namespace K50
open PySem PySem.Spec PyProof.Rows L2 KF KD
def prOk (p : Int) : Bool := decide (0 ≤ p) && decide (p ≤ 63)
def endOk (e : Option Int) (x : Int) : Bool := match e with
  | none => true
  | some g => decide (x ≤ g)
def Le.is (l : Le) : Bool := decide (0 ≤ l.house) && (decide (0 ≤ l.first) && (decide (l.row.length ≤ 32) && (l.row.all prOk && (endOk l.ends (l.first + (l.row.length : Nat)) && l.heard.all fun t => decide (0 ≤ t)))))
section
variable {P : Program} {w : World} {K : PySem.W.Frag} {mg : Str → Option Value} {base : Heap}
def spFz : Sp := fun vs H Q _ => ∃ n : Int, vs = [.int n] ∧ Q (.bl (decide (0 ≤ n))) H
theorem scFz : FnScope ["told"] ["told"] (defScope s_is_from_0) := ⟨rfl, rfl, rfl, by decide +kernel, rfl, by decide +kernel, by decide +kernel⟩
theorem ok_is_from_0 (T : Txt K w mg) : FnOk P w K mg base CX0 2 (He.fAd K ("_is_from_0", none)) (fdAt K (He.fAd K ("_is_from_0", none))) ["told"] spFz := by
  refine T.F_is_from_0.ok scFz (fun vs H Q E h => ?_) (fun cdv A outer s H vs Q E hr h => ?_)
  · obtain ⟨n, rfl, _⟩ := h
    rfl
  · obtain ⟨n, rfl, q⟩ := h
    refine ⟨_, PSs.nox (pss_one (ps_ret (pe_and (pe_call (ok_is_whole T) (hr.mono (by decide)) (by rfl) T.g_is_whole (T.F_is_whole).kp T.b_is_whole .nil pass0 (pa_cons (pv 0) pa_nil)) (pe_one (pe_cmpR op_ge (pv 0) pe_int (nomark _)))))), ?_⟩
    refine ⟨_, rfl, n, rfl, _, rfl, iteT ?_⟩
    exact ⟨_, rfl, _, _, rfl, rfl, q⟩
theorem all_map {α : Type} (f : α → Bool) : ∀ l : List α, ((l.map f).all id) = l.all f
  | [] => rfl
  | a :: l => by
    rw [List.map_cons, List.all_cons, List.all_cons, all_map f l]
    rfl
def spIs (K : PySem.W.Frag) : Sp := fun vs H Q _ => ∃ (v : V) (l : Le), vs = [v] ∧ LeH K H v l ∧ l.row.length ≤ 1000 ∧ l.heard.length ≤ 1000 ∧ ∀ H', Same H H' → Q (.bl l.is) H'
theorem scIs : FnScope ["told", "house", "first", "row", "ends", "heard", "press", "tick"] ["told"] (defScope s_is_letter) := ⟨rfl, rfl, rfl, by decide +kernel, rfl, by decide +kernel, by decide +kernel⟩
theorem ok_is_letter (T : Txt K w mg) : FnOk P w K mg base CX0 4 (He.fAd K ("is_letter", none)) (fdAt K (He.fAd K ("is_letter", none))) ["told"] (spIs K) := by
  obtain ⟨uM, gM, rM⟩ := T.c_MOST_PRESSES
  refine T.F_is_letter.ok scIs (fun vs H Q E h => ?_) (fun cdv A outer s H vs Q E hr h => ?_)
  · obtain ⟨v, l, rfl, _⟩ := h
    rfl
  · obtain ⟨v, l, rfl, ⟨t, r, g, rfl, sq, sr, sg⟩, hrl, hgl, kk⟩ := h
    refine ⟨_, PSs.nox (pss_cons (ps_if (PW.pt (pw_or (pt_not (pt_val (pe_callB (r := rIsi K) call_isi (by rfl) T.n_isinstance PyProof.Rows.Boot.«isinstance» (pa_cons (pv 0) (pa_cons (pe_bltn (v := .ty "tuple") (by rfl) T.n_tuple PyProof.Rows.Boot.«tuple» rfl) pa_nil))))) (pw_or1 (pt_cmpR op_ne (pe_callB (r := Evl.rLenS K) call_len_seq (by rfl) T.n_len PyProof.Rows.Boot.«len» (pa_cons (pv 0) pa_nil)) pe_int (nomark _))))) (pss_one (ps_ret pe_bl)) pss_nil)
      (pss_cons (ps_asg (pv 0) (pg_tup (by rfl) (pgs_cons (pg_name (i := 1) scIs.nd rfl (Or.inl rfl)) (pgs_cons (pg_name (i := 2) scIs.nd rfl (Or.inl rfl)) (pgs_cons (pg_name (i := 3) scIs.nd rfl (Or.inl rfl)) (pgs_cons (pg_name (i := 4) scIs.nd rfl (Or.inl rfl)) (pgs_cons (pg_name (i := 5) scIs.nd rfl (Or.inl rfl)) pgs_nil)))))))
      (pss_cons (ps_if (PW.pt (pw_or (pt_not (pt_val (pe_call (ok_is_from_0 T) (hr.mono (by decide)) (by rfl) T.g_is_from_0 (T.F_is_from_0).kp T.b_is_from_0 .nil pass0 (pa_cons (pv 1) pa_nil)))) (pw_or (pt_not (pt_val (pe_call (ok_is_from_0 T) (hr.mono (by decide)) (by rfl) T.g_is_from_0 (T.F_is_from_0).kp T.b_is_from_0 .nil pass0 (pa_cons (pv 2) pa_nil)))) (pw_or (pt_not (pt_val (pe_callB (r := rIsi K) call_isi (by rfl) T.n_isinstance PyProof.Rows.Boot.«isinstance» (pa_cons (pv 3) (pa_cons (pe_bltn (v := .ty "tuple") (by rfl) T.n_tuple PyProof.Rows.Boot.«tuple» rfl) pa_nil))))) (pw_or1 (pt_cmpR op_gt (pe_callB (r := Evl.rLenS K) call_len_seq (by rfl) T.n_len PyProof.Rows.Boot.«len» (pa_cons (pv 3) pa_nil)) (pe_glob (v := .int 32) (by rfl) gM rM) (nomark _))))))) (pss_one (ps_ret pe_bl)) pss_nil)
      (pss_cons (ps_if (pt_not (pt_val (pe_callB (cr_all rfl) (by rfl) T.n_all PyProof.Rows.Boot.«all» (pa_cons (pe_lc (own := [("press", 6)]) (g := gName 6) (tt := tYes) (by rfl) scIs.nd (pi_tup (pv 3)) (blkOk_by (own := [("press", 6)]) (N := ["told", "house", "first", "row", "ends", "heard", "press", "tick"]) (sc := defScope s_is_letter) (by decide +kernel)) (fun _ _ _ _ _ => pg_name (i := 6) scIs.nd rfl (Or.inl rfl)) (fun _ _ _ _ _ => pts_nil) (fun _ _ _ _ _ => (pe_call (ok_is_press_g T) (hr.mono (by decide)) (by rfl) T.g_is_press (T.F_is_press).kp T.b_is_press .nil pass0 (pa_cons (pv 6) pa_nil)))) pa_nil)))) (pss_one (ps_ret pe_bl)) pss_nil)
      (pss_cons (ps_if (PW.pt (pw_and (pt_cmpR op_notN (pv 4) pe_non (nomark _)) (pw_and1 (pt_not (PW.pt (pw_and (pt_val (pe_call (ok_is_whole T) (hr.mono (by decide)) (by rfl) T.g_is_whole (T.F_is_whole).kp T.b_is_whole .nil pass0 (pa_cons (pv 4) pa_nil))) (pw_and1 (pt_cmpR op_ge (pv 4) (pe_op op_add (pv 2) (pe_callB (r := Evl.rLenS K) call_len_seq (by rfl) T.n_len PyProof.Rows.Boot.«len» (pa_cons (pv 3) pa_nil))) (nomark _))))))))) (pss_one (ps_ret pe_bl)) pss_nil)
      (pss_one (ps_ret (pe_and (pe_callB (r := rIsi K) call_isi (by rfl) T.n_isinstance PyProof.Rows.Boot.«isinstance» (pa_cons (pv 5) (pa_cons (pe_bltn (v := .ty "tuple") (by rfl) T.n_tuple PyProof.Rows.Boot.«tuple» rfl) pa_nil))) (pe_one (pe_callB (cr_all rfl) (by rfl) T.n_all PyProof.Rows.Boot.«all» (pa_cons (pe_lc (own := [("tick", 7)]) (g := gName 7) (tt := tYes) (by rfl) scIs.nd (pi_tup (pv 5)) (blkOk_by (own := [("tick", 7)]) (N := ["told", "house", "first", "row", "ends", "heard", "press", "tick"]) (sc := defScope s_is_letter) (by decide +kernel)) (fun _ _ _ _ _ => pg_name (i := 7) scIs.nd rfl (Or.inl rfl)) (fun _ _ _ _ _ => pts_nil) (fun _ _ _ _ _ => (pe_call (ok_is_from_0 T) (hr.mono (by decide)) (by rfl) T.g_is_from_0 (T.F_is_from_0).kp T.b_is_from_0 .nil pass0 (pa_cons (pv 7) pa_nil)))) pa_nil))))))))))), ?_⟩
    have kf : l.is = false → ∀ H', Same H H' → Q (.bl false) H' := fun h H' s => by
      have := kk H' s
      rw [h] at this
      exact this
    refine ⟨_, rfl, _, _, _, _, _, rfl, .ty "tuple", ty_tup sq, kit_ty (r := true) (by decide +kernel), _, rfl, iteF ?_⟩
    refine ⟨_, rfl, _, _, rfl, .inr sq, rfl, _, rfl, iteNS rfl ?_⟩
    refine ⟨_, rfl, t, _, rfl, sq, rfl, _, _, rfl, _, _, rfl, _, _, rfl, _, _, rfl, _, _, rfl, rfl, ?_⟩
    refine ⟨_, rfl, _, rfl, _, rfl, ?_⟩
    cases c1 : decide (0 ≤ l.house) with
    | false => exact iteT (iteT (kf (by unfold Le.is; rw [c1]; rfl) H (Same.refl H)))
    | true =>
      refine iteF ⟨_, rfl, _, rfl, _, rfl, ?_⟩
      cases c2 : decide (0 ≤ l.first) with
      | false => exact iteT (iteT (kf (by unfold Le.is; rw [c1, c2]; rfl) H (Same.refl H)))
      | true =>
        refine iteF ⟨_, rfl, _, _, _, _, _, rfl, .ty "tuple", ty_tup sr, kit_ty (r := true) (by decide +kernel), _, rfl, iteF ?_⟩
        refine ⟨_, rfl, r, _, rfl, .inr sr, _, _, rfl, rfl, _, rfl, ?_⟩
        rw [List.length_map]
        refine ite2 (fun z => ?_) (fun z => ?_)
        · have hz : (l.row.length : Int) > 32 := of_decide_eq_true z
          exact kf (by unfold Le.is; rw [c1, c2, decide_eq_false (show ¬ l.row.length ≤ 32 by omega)]; rfl) H (Same.refl H)
        have c3 : decide (l.row.length ≤ 32) = true := by
          have hz : ¬ (l.row.length : Int) > 32 := fun q => z (decide_eq_true q)
          exact decide_eq_true (by omega)
        refine ⟨_, rfl, r, rfl, ⟨_, sr⟩, fun D hD => ?_⟩
        refine lc_tup (xs := l.row.map V.int) (fun i H' => Same H H' ∧ H' D = some (.lst (((l.row.take i).map prOk).map V.bl))) ⟨new_same hD, upd_same⟩ (fun i H' _ h => (same_tf h.1).sq sr) (fun i x H' hx h => ?_) (fun H1 h => ?_)
        · obtain ⟨sm, hacc⟩ := h
          rw [List.getElem?_map] at hx
          cases hp : l.row[i]? with
          | none => rw [hp] at hx; cases hx
          | some p =>
            rw [hp] at hx
            cases hx
            have hi := (List.getElem?_eq_some_iff.mp hp).1
            refine ⟨rfl, ?_⟩
            dsimp only [tYes]
            rw [if_pos rfl]
            refine ⟨_, rfl, p, rfl, _, hacc, by rw [List.length_map, List.length_map, List.length_take]; exact Nat.lt_of_lt_of_le (show min i l.row.length < 1001 by omega) (by decide), fun b o z => ?_, ?_⟩
            · rw [upd_ne (ne_of_none z hD)]
              exact sm _ _ z
            · rw [upd_same, List.take_add_one, hp, List.map_append, List.map_append]
              rfl
        obtain ⟨s1, hacc⟩ := h
        rw [List.length_map, List.take_length] at hacc
        refine ⟨D, _, rfl, SqL.of hacc, _, rfl, ?_⟩
        rw [all_map]
        cases c4 : l.row.all prOk with
        | false => exact iteT (kf (by unfold Le.is; rw [c1, c2, c3, c4]; rfl) H1 s1)
        | true =>
          refine iteF ?_
          have sr1 := (same_tf s1).sq sr
          have sg1 := (same_tf s1).sq sg
          dsimp only [tNext]
          refine seq_cut (fun σ H2 => σ = [some (.ref t), some (.int l.house), some (.int l.first), some (.ref r), some (ov l.ends), some (.ref g), none, none] ∧ H2 = H1 ∧ endOk l.ends (l.first + (l.row.length : Nat)) = true) (fun σ H2 h => ?_) (fun R hR => ?_)
          · obtain ⟨rfl, rfl, c5⟩ := h
            refine ⟨_, rfl, _, _, _, _, _, rfl, .ty "tuple", ty_tup sg1, kit_ty (r := true) (by decide +kernel), _, rfl, iteT ?_⟩
            refine ⟨_, rfl, g, rfl, ⟨_, sg1⟩, fun D2 hD2 => ?_⟩
            refine lc_tup (xs := l.heard.map V.int) (fun i H' => Same H2 H' ∧ H' D2 = some (.lst (((l.heard.take i).map fun t => decide (0 ≤ t)).map V.bl))) ⟨new_same hD2, upd_same⟩ (fun i H' _ h => (same_tf h.1).sq sg1) (fun i x H' hx h => ?_) (fun H3 h => ?_)
            · obtain ⟨sm, hacc⟩ := h
              rw [List.getElem?_map] at hx
              cases hp : l.heard[i]? with
              | none => rw [hp] at hx; cases hx
              | some p =>
                rw [hp] at hx
                cases hx
                have hi := (List.getElem?_eq_some_iff.mp hp).1
                refine ⟨rfl, ?_⟩
                dsimp only [tYes]
                rw [if_pos rfl]
                refine ⟨_, rfl, p, rfl, _, hacc, by rw [List.length_map, List.length_map, List.length_take]; exact Nat.lt_of_lt_of_le (show min i l.heard.length < 1001 by omega) (by decide), fun b o z => ?_, ?_⟩
                · rw [upd_ne (ne_of_none z hD2)]
                  exact sm _ _ z
                · rw [upd_same, List.take_add_one, hp, List.map_append, List.map_append]
                  rfl
            obtain ⟨s3, hacc3⟩ := h
            rw [List.length_map, List.take_length] at hacc3
            refine ⟨D2, _, rfl, SqL.of hacc3, ?_⟩
            rw [all_map]
            have := kk H3 (s1.trans s3)
            unfold Le.is at this
            rw [c1, c2, c3, c4, c5] at this
            exact this
          · cases he : l.ends with
            | none =>
              have e1 : endOk l.ends (l.first + (l.row.length : Nat)) = true := by rw [he]; rfl
              exact ⟨_, rfl, rfl, _, rfl, iteF (hR _ _ ⟨by rw [he]; rfl, rfl, e1⟩)⟩
            | some e =>
              refine ⟨_, rfl, rfl, _, rfl, iteT ⟨_, rfl, e, rfl, _, rfl, iteT ?_⟩⟩
              refine ⟨_, rfl, _, rfl, _, rfl, r, _, rfl, .inr sr1, _, _, rfl, rfl, _, _, rfl, rfl, _, rfl, ?_⟩
              rw [List.length_map]
              cases c5 : decide (l.first + (l.row.length : Nat) ≤ e) with
              | true => exact iteF (hR _ _ ⟨by rw [he]; rfl, rfl, by rw [he]; exact c5⟩)
              | false => exact iteT (kf (by unfold Le.is; rw [c1, c2, c3, c4, he]; show (true && (true && (true && (true && (decide _ && _))))) = false; rw [c5]; rfl) H1 s1)
def spNl (K : PySem.W.Frag) : Sp := fun vs H Q _ => ∃ (v : V) (l : Le), vs = [v] ∧ LeH K H v l ∧ l.is = true ∧ l.row.length ≤ 1000 ∧ l.heard.length ≤ 1000 ∧ ∀ H', Same H H' → Q .non H'
theorem scNl : FnScope ["letter"] ["letter"] (defScope s_need_letter) := ⟨rfl, rfl, rfl, by decide +kernel, rfl, by decide +kernel, by decide +kernel⟩
theorem ok_need_letter (T : Txt K w mg) : FnOk P w K mg base CX0 5 (He.fAd K ("_need_letter", none)) (fdAt K (He.fAd K ("_need_letter", none))) ["letter"] (spNl K) := by
  refine T.F_need_letter.ok scNl (fun vs H Q E h => ?_) (fun cdv A outer s H vs Q E hr h => ?_)
  · obtain ⟨v, l, rfl, _⟩ := h
    rfl
  · obtain ⟨v, l, rfl, hl, his, h1, h2, kk⟩ := h
    refine ⟨_, PSs.nox (pss_one (ps_if (pt_not (pt_val (pe_call (ok_is_letter T) (hr.mono (by decide)) (by rfl) T.g_is_letter (T.F_is_letter).kp T.b_is_letter .nil pass0 (pa_cons (pv 0) pa_nil)))) (pss_one ps_never) pss_nil)), ?_⟩
    refine ⟨_, rfl, v, l, rfl, hl, h1, h2, fun H' s => ⟨_, rfl, ?_⟩⟩
    rw [his]
    exact iteF (kk H' s)
def sizeL (l : Le) : Int := 8 + 16 * (2 + (l.heard.length : Int)) + 6 * (l.row.length : Int) + 6
def spSz (K : PySem.W.Frag) : Sp := fun vs H Q _ => ∃ (v : V) (l : Le), vs = [v] ∧ LeH K H v l ∧ l.is = true ∧ l.row.length ≤ 1000 ∧ l.heard.length ≤ 1000 ∧ ∀ H', Same H H' → Q (.int (sizeL l)) H'
theorem scSz : FnScope ["letter", "ticks"] ["letter"] (defScope s_size_in_bits) := ⟨rfl, rfl, rfl, by decide +kernel, rfl, by decide +kernel, by decide +kernel⟩
theorem ok_size_in_bits (T : Txt K w mg) : FnOk P w K mg base CX0 6 (He.fAd K ("size_in_bits", none)) (fdAt K (He.fAd K ("size_in_bits", none))) ["letter"] (spSz K) := by
  obtain ⟨u1, g1, r1⟩ := T.c_BITS_OF_HOUSE
  obtain ⟨u2, g2, r2⟩ := T.c_BITS_OF_TICK
  obtain ⟨u3, g3, r3⟩ := T.c_BITS_OF_PRESS
  obtain ⟨u4, g4, r4⟩ := T.c_BITS_OF_LENGTH
  refine T.F_size_in_bits.ok scSz (fun vs H Q E h => ?_) (fun cdv A outer s H vs Q E hr h => ?_)
  · obtain ⟨v, l, rfl, _⟩ := h
    rfl
  · obtain ⟨v, l, rfl, ⟨t, r, g, rfl, sq, sr, sg⟩, his, h1, h2, kk⟩ := h
    refine ⟨_, PSs.nox (pss_cons (ps_expr (pe_call (ok_need_letter T) (hr.mono (by decide)) (by rfl) T.g_need_letter (T.F_need_letter).kp T.b_need_letter .nil pass0 (pa_cons (pv 0) pa_nil)))
      (pss_cons (ps_set (i := 1) scSz.nd rfl (Or.inl rfl) (pe_op op_add pe_int (pe_callB (r := Evl.rLenS K) call_len_seq (by rfl) T.n_len PyProof.Rows.Boot.«len» (pa_cons (pe_ix (r := rIxT K) ix_tup (pv 0) pe_int (fun _ _ => rfl)) pa_nil))))
      (pss_one (ps_ret (pe_op op_add (pe_op op_add (pe_op op_add (pe_glob (v := .int 8) (by rfl) g1 r1) (pe_op op_mulW (pe_glob (v := .int 16) (by rfl) g2 r2) (pv 1))) (pe_op op_mulW (pe_glob (v := .int 6) (by rfl) g3 r3) (pe_callB (r := Evl.rLenS K) call_len_seq (by rfl) T.n_len PyProof.Rows.Boot.«len» (pa_cons (pe_ix (r := rIxT K) ix_tup (pv 0) pe_int (fun _ _ => rfl)) pa_nil)))) (pe_glob (v := .int 6) (by rfl) g4 r4)))))), ?_⟩
    refine ⟨_, rfl, .ref t, l, rfl, ⟨t, r, g, rfl, sq, sr, sg⟩, his, h1, h2, fun H1 s1 => ?_⟩
    have t1 := same_tf s1
    refine ⟨_, rfl, t, _, _, _, rfl, rfl, t1.sq sq, atI_nat (j := 4) rfl, g, _, rfl, .inr (t1.sq sg), _, _, rfl, rfl, ?_⟩
    have hw : ∀ {a b : Int} {n m : Nat}, a.natAbs < 2 ^ n → b.natAbs < 2 ^ m → 0 < n → 0 < m → n + m ≤ 1000000 → CMulW a b := fun h1 h2 h3 h4 h5 => wide_mul h1 h2 h3 h4 h5
    rw [List.length_map]
    have m1 : CMulW 16 (2 + (l.heard.length : Int)) := wide_mul (a := 40) (b := 40) (by decide) (small_ab (by omega) (by rw [pow40]; omega)) (by decide) (by decide) (by decide)
    have m2 : CMulW 6 (l.row.length : Int) := wide_mul (a := 40) (b := 40) (by decide) (small_ab (by omega) (by rw [pow40]; omega)) (by decide) (by decide) (by decide)
    refine ⟨_, rfl, _, _, rfl, rfl, m1, _, _, rfl, rfl, _, rfl, t, _, _, _, rfl, rfl, t1.sq sq, atI_nat (j := 2) rfl, r, _, rfl, .inr (t1.sq sr), ?_⟩
    rw [List.length_map]
    exact ⟨_, _, rfl, rfl, m2, _, _, rfl, rfl, _, _, rfl, rfl, kk H1 s1⟩
def spLt (K : PySem.W.Frag) : Sp := fun vs H Q _ => ∃ (house first : Int) (v : V) (h : Addr) (k : Kn) (hs : List Int), vs = [.int house, v, .int first, .ref h] ∧ KnH K H v k ∧ k.ok ∧ SqT K H h (hs.map V.int) ∧ 0 ≤ house ∧ 0 ≤ first ∧ ∀ u H', Same H H' → LeH K H' u (theL k house first hs) → Q u H'
theorem scLt : FnScope ["house", "known", "first", "heard"] ["house", "known", "first", "heard"] (defScope s_letter) := ⟨rfl, rfl, rfl, by decide +kernel, rfl, by decide +kernel, by decide +kernel⟩
theorem ok_letter (T : Txt K w mg) : FnOk P w K mg base CX0 6 (He.fAd K ("letter", none)) (fdAt K (He.fAd K ("letter", none))) ["house", "known", "first", "heard"] (spLt K) := by
  refine T.F_letter.ok scLt (fun vs H Q E h => ?_) (fun cdv A outer s H vs Q E hr h => ?_)
  · obtain ⟨house, first, v, h, k, hs, rfl, _⟩ := h
    rfl
  · obtain ⟨house, first, v, h, k, hs, rfl, hk, ok, hh, h0, h1, kk⟩ := h
    refine ⟨_, PSs.nox (pss_cons (ps_if (pt_cmpR op_lt (pv 0) pe_int (nomark _)) (pss_one ps_never) pss_nil)
      (pss_cons (ps_if (pt_not (pt_val (pe_call (ok_is_known T) (hr.mono (by decide)) (by rfl) T.g_is_known (T.F_is_known).kp T.b_is_known .nil pass0 (pa_cons (pv 1) pa_nil)))) (pss_one ps_never) pss_nil)
      (pss_cons (ps_if (pt_cmpR op_lt (pv 2) pe_int (nomark _)) (pss_one ps_never) pss_nil)
      (pss_one (ps_ret (pe_call (ok_letter_of T) (hr.mono (by decide)) (by rfl) T.g_letter_of (T.F_letter_of).kp T.b_letter_of .nil pass0 (pa_cons (pv 0) (pa_cons (pv 1) (pa_cons (pv 2) (pa_cons (pv 3) pa_nil)))))))))), ?_⟩
    refine ⟨_, rfl, _, _, rfl, rfl, _, rfl, ite2 (fun z => absurd (of_decide_eq_true z) (by omega)) (fun _ => ?_)⟩
    refine ⟨_, rfl, v, k, rfl, hk, ok, fun H1 s1 => ⟨true, rfl, iteF ?_⟩⟩
    refine ⟨_, rfl, _, _, rfl, rfl, _, rfl, ite2 (fun z => absurd (of_decide_eq_true z) (by omega)) (fun _ => ?_)⟩
    exact ⟨_, rfl, _, rfl, _, rfl, _, rfl, house, first, v, h, k, hs, rfl, hk.tf s1, ok, (same_tf s1).sq hh, fun u H2 s2 hu => kk u H2 (s1.trans s2) hu⟩
end
end K50
set_option maxRecDepth 100000
set_option maxHeartbeats 4000000
/-! The law's draws. -/
namespace K50
open PySem PySem.Spec PyProof.Rows L2 KF KD
/-! ### great powers -/
def CPowW (i j : Int) : Prop := 0 ≤ j ∧ j ≤ 1000 ∧ i.natAbs < 2 ^ 1000
theorem op_powW {X : Cx} : OpR X (binaryOp .Pow) (rI CPowW fun i j => .int (i ^ j.toNat)) := opI fun i j _ _ _ _ _ hc q => by
  refine PyProof.Rows.pow_int hc.1 ?_ q
  have hb : Builtin.Int.intBits i ≤ 1000 := by
    have h := PySem.Flt.log2_lt_of (by decide) hc.2.2
    unfold Builtin.Int.intBits
    split <;> omega
  have h1 : (Builtin.Int.intBits i : Int) ≤ 1000 := by omega
  have h2 := Int.mul_le_mul h1 hc.2.1 hc.1 (by decide)
  exact Int.le_trans h2 (by decide)
/-- a row of draws at d, good for n more -/
def Dk (H : Hp) (d : Addr) (n : Nat) : Prop := ∃ r m c : Int, H d = some (.lst [.int r, .int m, .int c]) ∧ 0 ≤ m ∧ m < 10000000000000000000000000000000 ∧ 0 ≤ c ∧ c + n ≤ 1000000000000
theorem Dk.le {H : Hp} {d : Addr} {n k : Nat} (h : Dk H d n) (hk : k ≤ n) : Dk H d k := by
  obtain ⟨r, m, c, h0, h1, h2, h3, h4⟩ := h
  exact ⟨r, m, c, h0, h1, h2, h3, by omega⟩
theorem Dk.lst {H : Hp} {d : Addr} {n : Nat} (h : Dk H d n) : ∃ xs, H d = some (.lst xs) := by
  obtain ⟨r, m, c, h0, _⟩ := h
  exact ⟨_, h0⟩
theorem Dk.same {H H' : Hp} {d : Addr} {n : Nat} (h : Dk H d n) (e : Same H H') : Dk H' d n := by
  obtain ⟨r, m, c, h0, h1⟩ := h
  exact ⟨r, m, c, e _ _ h0, h1⟩
theorem Dk.ne {H : Hp} {d p : Addr} {n : Nat} (h : Dk H d n) (np : H p = none) : p ≠ d := fun z => by
  obtain ⟨xs, hx⟩ := h.lst
  rw [z, hx] at np
  cases np
theorem Dk.upd {H : Hp} {d p : Addr} {n : Nat} {o : HO} (h : Dk H d n) (np : p ≠ d) : Dk (upd H p o) d n := by
  obtain ⟨r, m, c, h0, h1⟩ := h
  exact ⟨r, m, c, by rw [upd_ne np.symm]; exact h0, h1⟩
section
variable {P : Program} {w : World} {K : PySem.W.Frag} {mg : Str → Option Value} {base : Heap}
/-! ### _law_deck -/
def spDeck (K : PySem.W.Frag) : Sp := fun vs H Q _ => ∃ (a : Addr) (ns : List Int) (k : Nat), vs = [.ref a, .int (k : Int)] ∧ SqL K H a (ns.map V.int) ∧ k ≤ 100 ∧ ∀ l H', Same H H' → H l = none → Dk H' l 900000000000 → Q (.ref l) H'
theorem scD : FnScope ["script", "at", "cell"] ["script", "at"] (defScope s_law_deck) := ⟨rfl, rfl, rfl, by decide +kernel, rfl, by decide +kernel, by decide +kernel⟩
theorem ok_law_deck (T : Txt K w mg) : FnOk P w K mg base CX0 1 (He.fAd K ("_law_deck", none)) (fdAt K (He.fAd K ("_law_deck", none))) ["script", "at"] (spDeck K) := by
  refine T.F_law_deck.ok scD (fun vs H Q E h => ?_) (fun cdv A outer s H vs Q E hr h => ?_)
  · obtain ⟨a, ns, k, rfl, _⟩ := h
    rfl
  · obtain ⟨a, ns, k, rfl, hS, hk, kk⟩ := h
    refine ⟨_, PSs.nox (pss_cons (ps_set (i := 2) scD.nd rfl (Or.inl rfl) (pe_ifExp (pt_cmpR op_lt (pv 1) (pe_callB (r := Evl.rLenS K) call_len_seq (by rfl) T.n_len PyProof.Rows.Boot.«len» (pa_cons (pv 0) pa_nil)) (nomark _)) (pe_callTy call_int1 (by rfl) T.n_int PyProof.Rows.Boot.«int» (pa_cons (pe_ix (r := rIxL K) ix_list (pv 0) (pv 1) (fun _ _ => rfl)) pa_nil)) (pe_op op_mulW pe_int (pe_op op_add (pv 1) pe_int))))
      (pss_one (ps_ret (pe_lst (pa_cons (pe_callB (call_max2 rfl) (by rfl) T.n_max PyProof.Rows.Boot.«max» (pa_cons pe_int (pa_cons (pe_op op_sub (pe_callB call_abs (by rfl) T.n_abs PyProof.Rows.Boot.«abs» (pa_cons (pv 2) pa_nil)) (pe_op op_pow pe_int pe_int)) pa_nil))) (pa_cons (pe_op op_mod (pe_callTy call_int1 (by rfl) T.n_int PyProof.Rows.Boot.«int» (pa_cons (pe_op op_add (pe_op op_mul pe_int (pv 2)) (pe_op op_mulW pe_int (pv 1))) pa_nil)) (pe_op op_add (pe_op op_pow pe_int pe_int) pe_int)) (pa_cons pe_int pa_nil))))))), ?_⟩
    have fin : ∀ (r z : Int) (l : Addr), H l = none → Q (.ref l) (upd H l (.lst [.int r, .int (z % (10 ^ (30 : Int).toNat + 57)), .int 0])) := fun r z l n => by
      have e0 : (10 : Int) ^ (30 : Int).toNat + 57 = 1000000000000000000000000000057 := by decide
      have e1 := Int.emod_nonneg z (show (1000000000000000000000000000057 : Int) ≠ 0 by decide)
      have e2 := Int.emod_lt_of_pos z (show (0 : Int) < 1000000000000000000000000000057 by decide)
      rw [e0]
      exact kk l _ (fun b o e => by rw [upd_ne (ne_of_none e n)]; exact e) n ⟨r, _, _, upd_same, e1, by omega, by omega, by omega⟩
    refine ⟨_, rfl, _, rfl, a, _, rfl, .inl hS, _, _, rfl, rfl, _, rfl, ite2 (fun z => ?_) (fun z => ?_)⟩
    · have hk2 := of_decide_eq_true z
      have hk3 : k < ns.length := by
        rw [List.length_map] at hk2
        omega
      refine ⟨_, rfl, _, rfl, a, _, _, _, rfl, rfl, hS, atI_nat (v := .int ns[k]) (by rw [List.getElem?_map, List.getElem?_eq_getElem hk3]; rfl), .inl ⟨_, rfl, ?_⟩⟩
      refine ⟨_, rfl, _, rfl, _, _, rfl, rfl, ⟨by decide, by decide, by decide⟩, _, _, rfl, rfl, _, _, rfl, ?_⟩
      refine ⟨_, rfl, _, _, rfl, rfl, .inl ⟨by decide, by decide⟩, _, rfl, _, _, rfl, rfl, wide_mul (a := 40) (b := 20) (by decide) (small_ab (by omega) (by rw [pow20]; omega)) (by decide) (by decide) (by decide), _, _, rfl, rfl, .inl ⟨_, rfl, ?_⟩⟩
      exact ⟨_, _, rfl, rfl, ⟨by decide, by decide, by decide⟩, _, _, rfl, rfl, _, _, rfl, rfl, (show (0 : Int) < 10 ^ (30 : Int).toNat + 57 by decide), (show 3 ≤ sizeLine by decide), fun l n => fin _ _ l n⟩
    · refine ⟨_, rfl, _, _, rfl, rfl, _, _, rfl, rfl, wide_mul (a := 40) (b := 20) (by decide) (small_ab (by omega) (by rw [pow20]; omega)) (by decide) (by decide) (by decide), ?_⟩
      refine ⟨_, rfl, _, rfl, _, _, rfl, rfl, ⟨by decide, by decide, by decide⟩, _, _, rfl, rfl, _, _, rfl, ?_⟩
      refine ⟨_, rfl, _, _, rfl, rfl, .inl ⟨by decide, by decide⟩, _, rfl, _, _, rfl, rfl, wide_mul (a := 40) (b := 20) (by decide) (small_ab (by omega) (by rw [pow20]; omega)) (by decide) (by decide) (by decide), _, _, rfl, rfl, .inl ⟨_, rfl, ?_⟩⟩
      exact ⟨_, _, rfl, rfl, ⟨by decide, by decide, by decide⟩, _, _, rfl, rfl, _, _, rfl, rfl, (show (0 : Int) < 10 ^ (30 : Int).toNat + 57 by decide), (show 3 ≤ sizeLine by decide), fun l n => fin _ _ l n⟩
/-! ### _law_draw -/
def spDraw : Sp := fun vs H Q _ => ∃ (d : Addr) (m : Int) (n : Nat), vs = [.ref d, .int m] ∧ 0 < m ∧ m < 1000000000000 ∧ Dk H d (n + 1) ∧ ∀ (x : Int) H', 0 ≤ x → x < m → Frm d H H' → Dk H' d n → Q (.int x) H'
theorem scT : FnScope ["deck", "many", "found", "mixed"] ["deck", "many"] (defScope s_law_draw) := ⟨rfl, rfl, rfl, by decide +kernel, rfl, by decide +kernel, by decide +kernel⟩
theorem p104 : (2 : Int) ^ 104 = 20282409603651670423947251286016 := by decide
theorem ok_law_draw (T : Txt K w mg) : FnOk P w K mg base CX0 1 (He.fAd K ("_law_draw", none)) (fdAt K (He.fAd K ("_law_draw", none))) ["deck", "many"] spDraw := by
  refine T.F_law_draw.ok scT (fun vs H Q E h => ?_) (fun cdv A outer s H vs Q E hr h => ?_)
  · obtain ⟨d, m, n, rfl, _⟩ := h
    rfl
  · obtain ⟨d, m, n, rfl, hm0, hm1, ⟨r, mm, c, hd, a1, a2, a3, a4⟩, k⟩ := h
    refine ⟨_, PSs.nox (pss_cons (ps_if (pt_cmpR op_gt (pe_ix (r := rIxL K) ix_list (pv 0) pe_int (fun _ _ => rfl)) pe_int (nomark _)) (pss_cons (ps_set (i := 2) scT.nd rfl (Or.inl rfl) (pe_op op_mod (pe_callTy call_int1 (by rfl) T.n_int PyProof.Rows.Boot.«int» (pa_cons (pe_ix (r := rIxL K) ix_list (pv 0) pe_int (fun _ _ => rfl)) pa_nil)) (pv 1)))
      (pss_cons (ps_asg (pe_op op_fdivW (pe_ix (r := rIxL K) ix_list (pv 0) pe_int (fun _ _ => rfl)) (pv 1)) (pg_sub (pv 0) pe_int set_list))
      (pss_one (ps_ret (pv 2))))) pss_nil)
      (pss_cons (ps_asg (pe_op op_add (pe_ix (r := rIxL K) ix_list (pv 0) pe_int (fun _ _ => rfl)) pe_int) (pg_sub (pv 0) pe_int set_list))
      (pss_cons (ps_set (i := 3) scT.nd rfl (Or.inl rfl) (pe_op op_mod (pe_callTy call_int1 (by rfl) T.n_int PyProof.Rows.Boot.«int» (pa_cons (pe_op op_powW (pe_op op_add (pe_ix (r := rIxL K) ix_list (pv 0) pe_int (fun _ _ => rfl)) (pe_op op_mulW pe_int (pe_ix (r := rIxL K) ix_list (pv 0) pe_int (fun _ _ => rfl)))) pe_int) pa_nil)) (pe_op op_add (pe_op op_pow pe_int pe_int) pe_int)))
      (pss_cons (ps_set (i := 3) scT.nd rfl (Or.inl rfl) (pe_op op_mod (pe_callTy call_int1 (by rfl) T.n_int PyProof.Rows.Boot.«int» (pa_cons (pe_op op_powW (pe_op op_add (pv 3) (pe_op op_mulW pe_int (pe_ix (r := rIxL K) ix_list (pv 0) pe_int (fun _ _ => rfl)))) pe_int) pa_nil)) (pe_op op_add (pe_op op_pow pe_int pe_int) pe_int)))
      (pss_one (ps_ret (pe_op op_mod (pe_callTy call_int1 (by rfl) T.n_int PyProof.Rows.Boot.«int» (pa_cons (pe_op op_fdivW (pv 3) (pe_op op_pow pe_int pe_int)) pa_nil)) (pv 1)))))))), ?_⟩
    have hW : CDivW 0 m := wide_div hm0 (small_ab (n := 40) (by omega) (by rw [pow40]; omega)) (by decide) (by decide)
    refine ⟨_, rfl, _, _, _, _, rfl, rfl, SqL.of hd, at_of (j := 0) rfl rfl, _, _, rfl, rfl, _, rfl, ite2 (fun z => ?_) (fun z => ?_)⟩
    · refine ⟨_, rfl, _, _, _, _, rfl, rfl, SqL.of hd, at_of (j := 0) rfl rfl, .inl ⟨_, rfl, _, rfl, _, _, rfl, rfl, hm0, ?_⟩⟩
      refine ⟨_, rfl, _, _, _, _, rfl, rfl, SqL.of hd, at_of (j := 0) rfl rfl, _, rfl, _, _, rfl, rfl, hW, _, rfl, _, _, _, 0, rfl, rfl, hd, rfl, _, rfl, ?_⟩
      exact k _ _ (Int.emod_nonneg _ (by omega)) (Int.emod_lt_of_pos _ hm0) Frm.of_upd ⟨_, mm, c, upd_same, a1, a2, a3, by omega⟩
    · have hd1 : (upd H d (.lst [.int r, .int mm, .int (c + 1)])) d = some (.lst [.int r, .int mm, .int (c + 1)]) := upd_same
      refine ⟨_, rfl, _, _, _, _, rfl, rfl, SqL.of hd, at_of (j := 2) rfl rfl, _, _, rfl, rfl, _, rfl, _, _, _, 2, rfl, rfl, hd, rfl, ?_⟩
      have b1 : CMulW 32452843 (c + 1) := wide_mul (a := 40) (b := 40) (by decide) (small_ab (by omega) (by rw [pow40]; omega)) (by decide) (by decide) (by decide)
      have b2 : CMulW 15485863 (c + 1) := wide_mul (a := 40) (b := 40) (by decide) (small_ab (by omega) (by rw [pow40]; omega)) (by decide) (by decide) (by decide)
      have x0a : (mm + 32452843 * (c + 1)).natAbs < 2 ^ 1000 := Nat.lt_of_lt_of_le (small_ab (n := 110) (i := mm + 32452843 * (c + 1)) (by omega) (by rw [show (2 : Int) ^ 110 = 1298074214633706907132624082305024 by decide]; omega)) (Nat.pow_le_pow_right (by decide) (by decide))
      have e34 : (10 : Int) ^ (34 : Int).toNat + 193 = 10000000000000000000000000000000193 := by decide
      have e36 : (10 : Int) ^ (36 : Int).toNat + 159 = 1000000000000000000000000000000000159 := by decide
      refine ⟨_, rfl, _, _, _, _, rfl, rfl, SqL.of hd1, at_of (j := 1) rfl rfl, _, rfl, _, _, _, _, rfl, rfl, SqL.of hd1, at_of (j := 2) rfl rfl, _, _, rfl, rfl, b1, _, _, rfl, rfl, ?_⟩
      refine ⟨_, _, rfl, rfl, ⟨by decide, by decide, x0a⟩, .inl ⟨_, rfl, _, _, rfl, rfl, ⟨by decide, by decide, by decide⟩, _, _, rfl, rfl, _, _, rfl, rfl, (show (0 : Int) < 10 ^ (34 : Int).toNat + 193 by decide), ?_⟩⟩
      obtain ⟨x1, hx1⟩ : ∃ x1, x1 = (mm + 32452843 * (c + 1)) ^ (3 : Int).toNat % (10 ^ (34 : Int).toNat + 193) := ⟨_, rfl⟩
      have y1 := Int.emod_nonneg ((mm + 32452843 * (c + 1)) ^ (3 : Int).toNat) (show (10000000000000000000000000000000193 : Int) ≠ 0 by decide)
      have y2 := Int.emod_lt_of_pos ((mm + 32452843 * (c + 1)) ^ (3 : Int).toNat) (show (0 : Int) < 10000000000000000000000000000000193 by decide)
      rw [← e34] at y1 y2
      show L2.tSeq _ _ _ (List.set _ 3 (some (V.int ((mm + 32452843 * (c + 1)) ^ (3 : Int).toNat % (10 ^ (34 : Int).toNat + 193))))) _
      rw [← hx1] at y1 y2 ⊢
      rw [e34] at y2
      have x1a : (x1 + 15485863 * (c + 1)).natAbs < 2 ^ 1000 := Nat.lt_of_lt_of_le (small_ab (n := 120) (i := x1 + 15485863 * (c + 1)) (by omega) (by rw [show (2 : Int) ^ 120 = 1329227995784915872903807060280344576 by decide]; omega)) (Nat.pow_le_pow_right (by decide) (by decide))
      refine ⟨_, rfl, _, rfl, _, _, _, _, rfl, rfl, SqL.of hd1, at_of (j := 2) rfl rfl, _, _, rfl, rfl, b2, _, _, rfl, rfl, ?_⟩
      refine ⟨_, _, rfl, rfl, ⟨by decide, by decide, x1a⟩, .inl ⟨_, rfl, _, _, rfl, rfl, ⟨by decide, by decide, by decide⟩, _, _, rfl, rfl, _, _, rfl, rfl, (show (0 : Int) < 10 ^ (36 : Int).toNat + 159 by decide), ?_⟩⟩
      refine ⟨_, rfl, _, _, rfl, rfl, ⟨by decide, by decide, by decide⟩, _, _, rfl, rfl, wide_div (b := 30) (by decide) (by decide) (by decide) (by decide), .inl ⟨_, rfl, _, rfl, _, _, rfl, rfl, hm0, ?_⟩⟩
      exact k _ _ (Int.emod_nonneg _ (by omega)) (Int.emod_lt_of_pos _ hm0) Frm.of_upd ⟨r, mm, c + 1, upd_same, a1, a2, by omega, by omega⟩
end
end K50
set_option maxRecDepth 100000
set_option maxHeartbeats 4000000
/-! Equal, and of one kind. -/
namespace KF
open PySem PySem.Spec PyProof.Rows L2
section
variable {X : Cx}
def rNeNil (K : PySem.W.Frag) (c : Bool) : R2 := fun x y H Q => ∃ ds, Dp K H x (.list ds) ∧ Dp K H y (.list []) ∧ PyData.canLayAll0 ds = true ∧ Q (.bl (c == ds.isEmpty)) H
theorem eqv_nil (ds : List PyData) : PyData.eqv (.list ds) (.list []) = ds.isEmpty := by
  cases ds <;> simp [PyData.eqv, PyData.eqvAll]
theorem op_neNil (hu : X.A.units + 64 < cLine) : OpR X (compareOp .NotEq) (rNeNil X.K false) := by
  intro pins s σ H x y v u Q I rx ry h
  obtain ⟨ds, hd, he, hc, q⟩ := h
  obtain ⟨as, r1⟩ := Dp.reads I _ x v hd rx
  obtain ⟨bs, r2⟩ := Dp.reads I _ y u he ry
  have e : (PyData.list []).depth = 1 := by simp [PyData.depth, PyData.depthAll]
  refine SeqAt.compareNe_reads r1 r2 (by simpa [PyData.canLay0] using hc) (by simp [PyData.canLay0, PyData.canLayAll0]) (by rw [e]; have := Nat.min_le_right (PyData.list ds).depth 1; omega) ⟨.bl _, H, I, rfl, ?_⟩
  rw [eqv_nil]
  simpa using q
theorem op_eqNil (hu : X.A.units + 64 < cLine) : OpR X (compareOp .Eq) (rNeNil X.K true) := by
  intro pins s σ H x y v u Q I rx ry h
  obtain ⟨ds, hd, he, hc, q⟩ := h
  obtain ⟨as, r1⟩ := Dp.reads I _ x v hd rx
  obtain ⟨bs, r2⟩ := Dp.reads I _ y u he ry
  have e : (PyData.list []).depth = 1 := by simp [PyData.depth, PyData.depthAll]
  refine SeqAt.compareEq_reads r1 r2 (by simpa [PyData.canLay0] using hc) (by simp [PyData.canLay0, PyData.canLayAll0]) (by rw [e]; have := Nat.min_le_right (PyData.list ds).depth 1; omega) ⟨.bl _, H, I, rfl, ?_⟩
  rw [eqv_nil]
  simpa using q
end
end KF
namespace K50
open PySem PySem.Spec PyProof.Rows L2 KF KD
def AlOk : Nat → PyData → Prop
  | 0, d => match d with
    | .none => True
    | .int _ => True
    | _ => False
  | n + 1, d => match d with
    | .none => True
    | .int _ => True
    | .tuple ds => ds.length ≤ 1100 ∧ NLs ds ∧ ∀ e ∈ ds, AlOk n e
    | _ => False
theorem nl_get' : ∀ {ds : List PyData} {i : Nat}, NLs ds → (h : i < ds.length) → NL ds[i]
  | d :: ds, 0, h, _ => h.1
  | d :: ds, i + 1, h, hi => nl_get' (ds := ds) h.2 (Nat.lt_of_succ_lt_succ hi)
def spSame (K : PySem.W.Frag) (n : Nat) : Sp := fun vs H Q _ => ∃ (v1 v2 : V) (d : PyData), vs = [v1, v2] ∧ Dp K H v1 d ∧ Dp K H v2 d ∧ AlOk n d ∧ ∀ H', Same H H' → Q (.bl true) H'
def spSm (K : PySem.W.Frag) : Nat → Sp
  | 0 => fun _ _ _ _ => False
  | n + 1 => spSame K n
section
variable {P : Program} {w : World} {K : PySem.W.Frag} {mg : Str → Option Value} {base : Heap}
theorem kit_tl_int : PySem.W.kitAny K (.type "int") [.type "tuple", .type "list"] = some false := kitAny_cons (b := false) (kit_ty (by decide +kernel)) (fun _ => kitAny_cons (b := false) (kit_ty (by decide +kernel)) (fun _ => kitAny_nil) (fun z => nomatch z)) (fun z => nomatch z)
theorem kit_tl_non : PySem.W.kitAny K (.type "NoneType") [.type "tuple", .type "list"] = some false := kitAny_cons (b := false) (kit_ty (by decide +kernel)) (fun _ => kitAny_cons (b := false) (kit_ty (by decide +kernel)) (fun _ => kitAny_nil) (fun z => nomatch z)) (fun z => nomatch z)
theorem kit_tl_tup : PySem.W.kitAny K (.type "tuple") [.type "tuple", .type "list"] = some true := kitAny_cons (b := true) (kit_ty (by decide +kernel)) (fun z => nomatch z) (fun _ => rfl)
theorem scSm : FnScope ["told", "due", "kind", "at"] ["told", "due"] (defScope s_law_same) := ⟨rfl, rfl, rfl, by decide +kernel, rfl, by decide +kernel, by decide +kernel⟩
theorem ok_law_same (T : Txt K w mg) : ∀ n : Nat, FnOk P w K mg base CX0 n (He.fAd K ("_law_same", none)) (fdAt K (He.fAd K ("_law_same", none))) ["told", "due"] (spSm K n)
  | 0 => ⟨fun _ _ _ _ z => z.elim, fun _ _ _ _ _ _ _ _ _ _ _ _ _ z => z.elim⟩
  | n + 1 => by
    have G := ok_law_same T n
    refine T.F_law_same.ok scSm (fun vs H Q E h => ?_) (fun cdv A outer s H vs Q E hr h => ?_)
    · obtain ⟨v1, v2, d, rfl, _⟩ := h
      rfl
    · obtain ⟨v1, v2, d, rfl, h1, h2, hp, k⟩ := h
      refine ⟨_, PSs.nox (pss_cons (ps_if (pt_val (pe_callB (r := rIsiT K) call_isiT (by rfl) T.n_isinstance PyProof.Rows.Boot.«isinstance» (pa_cons (pv 1) (pa_cons (pe_tup (pa_cons (pe_bltn (v := .ty "tuple") (by rfl) T.n_tuple PyProof.Rows.Boot.«tuple» rfl) (pa_cons (pe_bltn (v := .ty "list") (by rfl) T.n_list PyProof.Rows.Boot.«list» rfl) pa_nil))) pa_nil)))) (pss_cons (ps_set (i := 2) scSm.nd rfl (Or.inl rfl) (pe_ifExp (pt_val (pe_callB (r := rIsi K) call_isi (by rfl) T.n_isinstance PyProof.Rows.Boot.«isinstance» (pa_cons (pv 1) (pa_cons (pe_bltn (v := .ty "tuple") (by rfl) T.n_tuple PyProof.Rows.Boot.«tuple» rfl) pa_nil)))) (pe_callB (r := rIsi K) call_isi (by rfl) T.n_isinstance PyProof.Rows.Boot.«isinstance» (pa_cons (pv 0) (pa_cons (pe_bltn (v := .ty "tuple") (by rfl) T.n_tuple PyProof.Rows.Boot.«tuple» rfl) pa_nil))) (pe_callB (r := rIsi K) call_isi (by rfl) T.n_isinstance PyProof.Rows.Boot.«isinstance» (pa_cons (pv 0) (pa_cons (pe_bltn (v := .ty "list") (by rfl) T.n_list PyProof.Rows.Boot.«list» rfl) pa_nil)))))
      (pss_cons (ps_if (PW.pt (pw_or (pt_not (pt_val (pv 2))) (pw_or1 (pt_cmpR op_ne (pe_callB (r := Evl.rLenS K) call_len_seq (by rfl) T.n_len PyProof.Rows.Boot.«len» (pa_cons (pv 0) pa_nil)) (pe_callB (r := Evl.rLenS K) call_len_seq (by rfl) T.n_len PyProof.Rows.Boot.«len» (pa_cons (pv 1) pa_nil)) (nomark _))))) (pss_one (ps_ret pe_bl)) pss_nil)
      (pss_one (ps_ret (pe_cmpR (r := rNeNil K true) (op_eqNil hr.units) (pe_lc (own := [("at", 3)]) (g := gName 3) (by rfl) scSm.nd (pi_range1 (by rfl) T.n_range (pa_cons (pe_callB (r := Evl.rLenS K) call_len_seq (by rfl) T.n_len PyProof.Rows.Boot.«len» (pa_cons (pv 1) pa_nil)) pa_nil)) (blkOk_by (own := [("at", 3)]) (N := ["told", "due", "kind", "at"]) (sc := defScope s_law_same) (by decide +kernel)) (fun _ _ _ _ _ => pg_name (i := 3) scSm.nd rfl (Or.inl rfl)) (fun _ _ _ _ _ => pts_one (pt_not (pt_val (pe_call G (hr.mono (by omega)) (by rfl) T.g_law_same (T.F_law_same).kp T.b_law_same .nil pass0 (pa_cons (pe_ix (r := rIxT K) ix_tup (pv 0) (pv 3) (fun _ _ => rfl)) (pa_cons (pe_ix (r := rIxT K) ix_tup (pv 1) (pv 3) (fun _ _ => rfl)) pa_nil)))))) (fun _ _ _ _ _ => (pv 3))) (pe_lst pa_nil) (nomark _)))))) pss_nil)
      (pss_cons (ps_if (pt_cmpR op_isN (pv 1) pe_non (nomark _)) (pss_one (ps_ret (pe_cmpR op_isN (pv 0) pe_non (nomark _)))) pss_nil)
      (pss_one (ps_ret (pe_and (pe_callB (r := rIsi K) call_isi (by rfl) T.n_isinstance PyProof.Rows.Boot.«isinstance» (pa_cons (pv 0) (pa_cons (pe_bltn (v := .ty "int") (by rfl) T.n_int PyProof.Rows.Boot.«int» rfl) pa_nil))) (pe_and (pe_cmpR op_eq (pe_callB (r := rIsi K) call_isi (by rfl) T.n_isinstance PyProof.Rows.Boot.«isinstance» (pa_cons (pv 0) (pa_cons (pe_bltn (v := .ty "bool") (by rfl) T.n_bool PyProof.Rows.Boot.«bool» rfl) pa_nil))) (pe_callB (r := rIsi K) call_isi (by rfl) T.n_isinstance PyProof.Rows.Boot.«isinstance» (pa_cons (pv 1) (pa_cons (pe_bltn (v := .ty "bool") (by rfl) T.n_bool PyProof.Rows.Boot.«bool» rfl) pa_nil))) (nomark _)) (pe_one (pe_cmpR op_eq (pv 0) (pv 1) (nomark _))))))))), ?_⟩
      cases d with
      | none =>
        cases h1
        cases h2
        refine ⟨_, rfl, (show 2 ≤ sizeLine by decide), fun p np => ⟨_, p, _, .type "NoneType", _, _, rfl, upd_same, .cons (.ty _) (.cons (.ty _) .nil), .base .non, kit_tl_non, _, rfl, iteF ?_⟩⟩
        have s1 := new_same (o := .tup [.ty "tuple", .ty "list"]) np
        exact ⟨_, rfl, rfl, _, rfl, ite2 (fun _ => ⟨_, rfl, rfl, k _ s1⟩) (fun z => (z rfl).elim)⟩
      | bool c => cases n <;> exact hp.elim
      | str x => cases n <;> exact hp.elim
      | int i =>
        cases h1
        cases h2
        refine ⟨_, rfl, (show 2 ≤ sizeLine by decide), fun p np => ⟨_, p, _, .type "int", _, _, rfl, upd_same, .cons (.ty _) (.cons (.ty _) .nil), .base (.int i), kit_tl_int, _, rfl, iteF ?_⟩⟩
        have s1 := new_same (o := .tup [.ty "tuple", .ty "list"]) np
        refine ⟨_, rfl, rfl, _, rfl, ite2 (fun z => nomatch (of_decide_eq_true z)) (fun _ => ?_)⟩
        refine ⟨_, rfl, _, _, _, _, _, rfl, .ty "int", .base (.int i), kit_ty (r := true) (by decide +kernel), _, rfl, iteT ?_⟩
        refine ⟨_, rfl, _, _, _, _, _, rfl, .ty "bool", .base (.int i), kit_ty (r := false) (by decide +kernel), _, rfl, _, _, _, _, _, rfl, .ty "bool", .base (.int i), kit_ty (r := false) (by decide +kernel), rfl, _, rfl, iteT ?_⟩
        refine ⟨_, rfl, _, rfl, rfl, ?_⟩
        rw [decide_eq_true (rfl : V.int i = V.int i)]
        exact k _ s1
      | list ds => cases n <;> exact hp.elim
      | dict ds => cases n <;> exact hp.elim
      | tuple ds =>
        cases n with
        | zero => exact hp.elim
        | succ m =>
          cases h1 with
          | @tup p xs _ q1 a1 =>
            cases h2 with
            | @tup q ys _ q2 a2 =>
              have l1 := dpa_len a1
              have l2 := dpa_len a2
              have hlen : ds.length ≤ 1100 := hp.1
              refine ⟨_, rfl, (show 2 ≤ sizeLine by decide), fun pp np => ⟨_, pp, _, .type "tuple", _, _, rfl, upd_same, .cons (.ty _) (.cons (.ty _) .nil), ty_tup ((same_tf (new_same np)).sq q2), kit_tl_tup, _, rfl, iteT ?_⟩⟩
              have s0 := new_same (o := .tup [.ty "tuple", .ty "list"]) np
              have q1 := (same_tf s0).sq q1
              have q2 := (same_tf s0).sq q2
              refine ⟨_, rfl, _, _, _, _, _, rfl, .ty "tuple", ty_tup q2, kit_ty (r := true) (by decide +kernel), _, rfl, iteT ?_⟩
              refine ⟨_, rfl, _, _, _, _, _, rfl, .ty "tuple", ty_tup q1, kit_ty (r := true) (by decide +kernel), ?_⟩
              refine ⟨_, rfl, _, rfl, iteF ?_⟩
              refine ⟨_, rfl, _, _, rfl, .inr q1, _, rfl, _, _, rfl, .inr q2, rfl, _, rfl, ?_⟩
              rw [l1, l2, decide_eq_true (rfl : V.int (ds.length : Int) = V.int (ds.length : Int))]
              refine iteF ?_
              refine ⟨_, rfl, q, ys, rfl, .inr q2, (ys.length : Int), rfl, by omega, by omega, fun D hD => ?_⟩
              have hN : ((ys.length : Int)).toNat = ds.length := by omega
              rw [hN]
              refine lc_range (lo := 0) (n := ds.length) (fun i H' => Same (upd H pp (.tup [.ty "tuple", .ty "list"])) H' ∧ H' D = some (.lst [])) ⟨new_same hD, upd_same⟩ (fun i H' hi hPv => ?_) (fun H' hPv => ?_)
              · obtain ⟨s1, hl⟩ := hPv
                have he : ds[i]? = some ds[i] := List.getElem?_eq_getElem hi
                obtain ⟨v1, e1, d1⟩ := dpa_get a1 he
                obtain ⟨v2, e2, d2⟩ := dpa_get a2 he
                have tf := same_tf s1
                have tf0 := (same_tf s0).trans tf
                have hr2 : AlOk m ds[i] := hp.2.2 _ (List.getElem_mem hi)
                have nl2 : NL ds[i] := nl_get' hp.2.1 hi
                refine ⟨rfl, ?_⟩
                refine ⟨_, rfl, _, rfl, p, xs, _, v1, rfl, rfl, tf.sq q1, at_of (j := i) (by omega) e1, _, rfl, _, rfl, q, ys, _, v2, rfl, rfl, tf.sq q2, at_of (j := i) (by omega) e2, ?_⟩
                exact ⟨v1, v2, ds[i], rfl, dp_nl tf0 _ _ nl2 d1, dp_nl tf0 _ _ nl2 d2, hr2, fun H2 s2 => ⟨true, rfl, iteF ⟨s1.trans s2, s2 _ _ hl⟩⟩⟩
              · obtain ⟨s1, hl⟩ := hPv
                refine ⟨(show 0 ≤ sizeLine by decide), fun E0' nE => ?_⟩
                have sE := new_same (o := .lst []) nE
                refine ⟨[], .lst (SqL.of (sE _ _ hl)) .nil, .lst (SqL.of upd_same) .nil, rfl, ?_⟩
                exact k _ ((s0.trans s1).trans sE)
end
end K50
set_option maxRecDepth 100000
set_option maxHeartbeats 4000000
/-! The law's own letters. -/
namespace K50
open PySem PySem.Spec PyProof.Rows L2 KF KD
theorem filt_all {α : Type} (f : α → Bool) : ∀ l : List α, ((l.filter fun p => !f p).isEmpty) = l.all f
  | [] => rfl
  | a :: l => by
    rw [List.filter_cons, List.all_cons, ← filt_all f l]
    cases f a <;> rfl
theorem can_ints : ∀ r : List Int, PyData.canLayAll0 (r.map .int) = true
  | [] => by simp [PyData.canLayAll0]
  | a :: r => by rw [List.map_cons, PyData.canLayAll0, can_ints r]; simp [PyData.canLay0]
theorem ints_dp {K : PySem.W.Frag} {H : Hp} : ∀ ns : List Int, DpAll K H (ns.map V.int) (ns.map PyData.int)
  | [] => .nil
  | _ :: ns => .cons (.int _) (ints_dp ns)
theorem emp_map {α β : Type} (f : α → β) (l : List α) : (l.map f).isEmpty = l.isEmpty := by cases l <;> rfl
theorem take_filt {f : Int → Bool} {l : List Int} {i : Nat} {p : Int} (h : l[i]? = some p) : (l.take (i + 1)).filter f = (l.take i).filter f ++ (if f p = true then [p] else []) := by
  rw [List.take_add_one, h, List.filter_append]
  congr 1
  cases hf : f p <;> simp [hf]
section
variable {P : Program} {w : World} {K : PySem.W.Frag} {mg : Str → Option Value} {base : Heap}
def spIl (K : PySem.W.Frag) : Sp := fun vs H Q _ => ∃ (v : V) (l : Le), vs = [v] ∧ LeH K H v l ∧ l.row.length ≤ 1000 ∧ l.heard.length ≤ 1000 ∧ ∀ H', Same H H' → Q (.bl l.is) H'
theorem scIl : FnScope ["told", "house", "first", "row", "ends", "heard", "press", "tick"] ["told"] (defScope s_law_is_letter) := ⟨rfl, rfl, rfl, by decide +kernel, rfl, by decide +kernel, by decide +kernel⟩
theorem ok_law_is_letter (T : Txt K w mg) : FnOk P w K mg base CX0 1 (He.fAd K ("_law_is_letter", none)) (fdAt K (He.fAd K ("_law_is_letter", none))) ["told"] (spIl K) := by
  refine T.F_law_is_letter.ok scIl (fun vs H Q E h => ?_) (fun cdv A outer s H vs Q E hr h => ?_)
  · obtain ⟨v, l, rfl, _⟩ := h
    rfl
  · obtain ⟨v, l, rfl, ⟨t, r, g, rfl, sq, sr, sg⟩, hrl, hgl, kk⟩ := h
    refine ⟨_, PSs.nox (pss_cons (ps_asg (pv 0) (pg_tup (by rfl) (pgs_cons (pg_name (i := 1) scIl.nd rfl (Or.inl rfl)) (pgs_cons (pg_name (i := 2) scIl.nd rfl (Or.inl rfl)) (pgs_cons (pg_name (i := 3) scIl.nd rfl (Or.inl rfl)) (pgs_cons (pg_name (i := 4) scIl.nd rfl (Or.inl rfl)) (pgs_cons (pg_name (i := 5) scIl.nd rfl (Or.inl rfl)) pgs_nil)))))))
      (pss_cons (ps_if (PW.pt (pw_or (pt_cmpR op_lt (pv 1) pe_int (nomark _)) (pw_or (pt_cmpR op_lt (pv 2) pe_int (nomark _)) (pw_or (pt_cmpR op_gt (pe_callB (r := Evl.rLenS K) call_len_seq (by rfl) T.n_len PyProof.Rows.Boot.«len» (pa_cons (pv 3) pa_nil)) pe_int (nomark _)) (pw_or1 (pt_cmpR (r := rNeNil K false) (op_neNil hr.units) (pe_lc (own := [("press", 6)]) (g := gName 6) (by rfl) scIl.nd (pi_tup (pv 3)) (blkOk_by (own := [("press", 6)]) (N := ["told", "house", "first", "row", "ends", "heard", "press", "tick"]) (sc := defScope s_law_is_letter) (by decide +kernel)) (fun _ _ _ _ _ => pg_name (i := 6) scIl.nd rfl (Or.inl rfl)) (fun _ _ _ _ _ => pts_one (PW.pt (pw_or (pt_cmpR op_lt (pv 6) pe_int (nomark _)) (pw_or1 (pt_cmpR op_gt (pv 6) pe_int (nomark _)))))) (fun _ _ _ _ _ => (pv 6))) (pe_lst pa_nil) (nomark _))))))) (pss_one (ps_ret pe_bl)) pss_nil)
      (pss_cons (ps_if (pt_cmpR (r := rNeNil K false) (op_neNil hr.units) (pe_lc (own := [("tick", 7)]) (g := gName 7) (by rfl) scIl.nd (pi_tup (pv 5)) (blkOk_by (own := [("tick", 7)]) (N := ["told", "house", "first", "row", "ends", "heard", "press", "tick"]) (sc := defScope s_law_is_letter) (by decide +kernel)) (fun _ _ _ _ _ => pg_name (i := 7) scIl.nd rfl (Or.inl rfl)) (fun _ _ _ _ _ => pts_one (pt_cmpR op_lt (pv 7) pe_int (nomark _))) (fun _ _ _ _ _ => (pv 7))) (pe_lst pa_nil) (nomark _)) (pss_one (ps_ret pe_bl)) pss_nil)
      (pss_one (ps_ret (pe_or (pe_cmpR op_isN (pv 4) pe_non (nomark _)) (pe_one (pe_cmpR op_ge (pv 4) (pe_op op_add (pv 2) (pe_callB (r := Evl.rLenS K) call_len_seq (by rfl) T.n_len PyProof.Rows.Boot.«len» (pa_cons (pv 3) pa_nil))) (nomark _))))))))), ?_⟩
    have kf : l.is = false → ∀ H', Same H H' → Q (.bl false) H' := fun h H' s => by
      have := kk H' s
      rw [h] at this
      exact this
    refine ⟨_, rfl, t, _, rfl, sq, rfl, _, _, rfl, _, _, rfl, _, _, rfl, _, _, rfl, _, _, rfl, rfl, ?_⟩
    refine ⟨_, rfl, _, _, rfl, rfl, _, rfl, ite2 (fun z => ?_) (fun z => ?_)⟩
    · have hz := of_decide_eq_true z
      exact iteT (kf (by unfold Le.is; rw [decide_eq_false (show ¬ 0 ≤ l.house by omega)]; rfl) H (Same.refl H))
    have c1 : decide (0 ≤ l.house) = true := by
      have : ¬ l.house < 0 := fun q => z (decide_eq_true q)
      exact decide_eq_true (by omega)
    refine ⟨_, rfl, _, _, rfl, rfl, _, rfl, ite2 (fun z => ?_) (fun z => ?_)⟩
    · have hz := of_decide_eq_true z
      exact iteT (kf (by unfold Le.is; rw [c1, decide_eq_false (show ¬ 0 ≤ l.first by omega)]; rfl) H (Same.refl H))
    have c2 : decide (0 ≤ l.first) = true := by
      have : ¬ l.first < 0 := fun q => z (decide_eq_true q)
      exact decide_eq_true (by omega)
    refine ⟨_, rfl, r, _, rfl, .inr sr, _, _, rfl, rfl, _, rfl, ?_⟩
    rw [List.length_map]
    refine ite2 (fun z => ?_) (fun z => ?_)
    · have hz : (l.row.length : Int) > 32 := of_decide_eq_true z
      exact iteT (kf (by unfold Le.is; rw [c1, c2, decide_eq_false (show ¬ l.row.length ≤ 32 by omega)]; rfl) H (Same.refl H))
    have c3 : decide (l.row.length ≤ 32) = true := by
      have hz : ¬ (l.row.length : Int) > 32 := fun q => z (decide_eq_true q)
      exact decide_eq_true (by omega)
    refine ⟨_, rfl, r, rfl, ⟨_, sr⟩, fun D hD => ?_⟩
    refine lc_tup (xs := l.row.map V.int) (fun i H' => Same H H' ∧ H' D = some (.lst (((l.row.take i).filter fun p => !prOk p).map V.int))) ⟨new_same hD, upd_same⟩ (fun i H' _ h => (same_tf h.1).sq sr) (fun i x H' hx h => ?_) (fun H1 h => ?_)
    · obtain ⟨sm, hacc⟩ := h
      rw [List.getElem?_map] at hx
      cases hp : l.row[i]? with
      | none => rw [hp] at hx; cases hx
      | some p =>
        rw [hp] at hx
        cases hx
        have hi := (List.getElem?_eq_some_iff.mp hp).1
        have step := take_filt (f := fun p => !prOk p) hp
        have hlen : (((l.row.take i).filter fun p => !prOk p).map V.int).length < sizeLine := by
          have h2 := List.length_filter_le (fun p => !prOk p) (l.row.take i)
          rw [List.length_take] at h2
          rw [List.length_map]
          exact Nat.lt_of_lt_of_le (show _ < 1001 by omega) (by decide)
        have yes : prOk p = false → ∃ acc, H' D = some (.lst acc) ∧ acc.length < sizeLine ∧ Same H (upd H' D (.lst (acc ++ [V.int p]))) ∧ (upd H' D (.lst (acc ++ [V.int p]))) D = some (.lst (((l.row.take (i + 1)).filter fun p => !prOk p).map V.int)) := fun e => by
          refine ⟨_, hacc, hlen, fun b o z => ?_, ?_⟩
          · rw [upd_ne (ne_of_none z hD)]
            exact sm _ _ z
          · rw [upd_same, step, if_pos (by rw [e]; rfl), List.map_append]
            rfl
        have no : prOk p = true → Same H H' ∧ H' D = some (.lst (((l.row.take (i + 1)).filter fun p => !prOk p).map V.int)) := fun e => by
          rw [step, if_neg (by rw [e]; decide), List.append_nil]
          exact ⟨sm, hacc⟩
        refine ⟨rfl, ?_⟩
        refine ⟨_, rfl, _, _, rfl, rfl, _, rfl, ite2 (fun z => ?_) (fun z => ?_)⟩
        · have hz : p < 0 := of_decide_eq_true z
          exact iteT ⟨_, rfl, yes (by unfold prOk; rw [decide_eq_false (show ¬ 0 ≤ p by omega)]; rfl)⟩
        · have hz : ¬ p < 0 := fun q => z (decide_eq_true q)
          refine ⟨_, rfl, _, _, rfl, rfl, _, rfl, ite2 (fun z2 => ?_) (fun z2 => ?_)⟩
          · have hz2 : p > 63 := of_decide_eq_true z2
            exact ⟨_, rfl, yes (by unfold prOk; rw [decide_eq_false (show ¬ p ≤ 63 by omega), Bool.and_false])⟩
          · have hz2 : ¬ p > 63 := fun q => z2 (decide_eq_true q)
            exact no (by unfold prOk; rw [decide_eq_true (show 0 ≤ p by omega), decide_eq_true (show p ≤ 63 by omega)]; rfl)
    obtain ⟨s1, hacc⟩ := h
    rw [List.length_map, List.take_length] at hacc
    refine ⟨(show 0 ≤ sizeLine by decide), fun e0 ne0 => ?_⟩
    have s2 := new_same (o := .lst []) ne0
    refine ⟨(l.row.filter fun p => !prOk p).map .int, .lst (SqL.of (s2 _ _ hacc)) (ints_dp _), .lst (SqL.of upd_same) .nil, can_ints _, _, rfl, ?_⟩
    rw [emp_map, filt_all]
    cases c4 : l.row.all prOk with
    | false => exact iteT (kf (by unfold Le.is; rw [c1, c2, c3, c4]; rfl) _ (s1.trans s2))
    | true =>
      refine iteF ?_
      have s12 := s1.trans s2
      have sg1 := (same_tf s12).sq sg
      refine ⟨_, rfl, g, rfl, ⟨_, sg1⟩, fun D2 hD2 => ?_⟩
      refine lc_tup (xs := l.heard.map V.int) (fun i H' => Same (upd H1 e0 (.lst [])) H' ∧ H' D2 = some (.lst (((l.heard.take i).filter fun t => !decide (0 ≤ t)).map V.int))) ⟨new_same hD2, upd_same⟩ (fun i H' _ h => (same_tf h.1).sq sg1) (fun i x H' hx h => ?_) (fun H3 h => ?_)
      · obtain ⟨sm, hacc⟩ := h
        rw [List.getElem?_map] at hx
        cases hp : l.heard[i]? with
        | none => rw [hp] at hx; cases hx
        | some p =>
          rw [hp] at hx
          cases hx
          have hi := (List.getElem?_eq_some_iff.mp hp).1
          have step := take_filt (f := fun t => !decide (0 ≤ t)) hp
          have hlen : (((l.heard.take i).filter fun t => !decide (0 ≤ t)).map V.int).length < sizeLine := by
            have h2 := List.length_filter_le (fun t => !decide (0 ≤ t)) (l.heard.take i)
            rw [List.length_take] at h2
            rw [List.length_map]
            exact Nat.lt_of_lt_of_le (show _ < 1001 by omega) (by decide)
          refine ⟨rfl, ?_⟩
          refine ⟨_, rfl, _, _, rfl, rfl, _, rfl, ite2 (fun z => ?_) (fun z => ?_)⟩
          · have hz : p < 0 := of_decide_eq_true z
            refine ⟨_, rfl, _, hacc, hlen, fun b o z => ?_, ?_⟩
            · rw [upd_ne (ne_of_none z hD2)]
              exact sm _ _ z
            · rw [upd_same, step, if_pos (by rw [decide_eq_false (show ¬ 0 ≤ p by omega)]; rfl), List.map_append]
              rfl
          · have hz : ¬ p < 0 := fun q => z (decide_eq_true q)
            show Same _ H' ∧ H' D2 = _
            rw [step, if_neg (by rw [decide_eq_true (show 0 ≤ p by omega)]; decide), List.append_nil]
            exact ⟨sm, hacc⟩
      obtain ⟨s3, hacc3⟩ := h
      rw [List.length_map, List.take_length] at hacc3
      refine ⟨(show 0 ≤ sizeLine by decide), fun e1 ne1 => ?_⟩
      have s4 := new_same (o := .lst []) ne1
      have sA := (s12.trans s3).trans s4
      refine ⟨(l.heard.filter fun t => !decide (0 ≤ t)).map .int, .lst (SqL.of (s4 _ _ hacc3)) (ints_dp _), .lst (SqL.of upd_same) .nil, can_ints _, _, rfl, ?_⟩
      rw [emp_map, filt_all]
      cases c6 : l.heard.all fun t => decide (0 ≤ t) with
      | false => exact iteT (kf (by unfold Le.is; rw [c1, c2, c3, c4, c6, Bool.and_false]; rfl) _ sA)
      | true =>
        refine iteF ?_
        have fin := kk _ sA
        unfold Le.is at fin
        rw [c1, c2, c3, c4, c6, Bool.and_true] at fin
        replace fin : Q (.bl (endOk l.ends (l.first + (l.row.length : Nat)))) _ := fin
        cases he : l.ends with
        | none =>
          rw [he] at fin
          exact ⟨_, rfl, rfl, _, rfl, iteT fin⟩
        | some e =>
          rw [he] at fin
          refine ⟨_, rfl, rfl, _, rfl, iteF ⟨_, rfl, _, rfl, _, rfl, r, _, rfl, .inr ((same_tf sA).sq sr), _, _, rfl, rfl, _, _, rfl, rfl, ?_⟩⟩
          rw [List.length_map]
          exact fin
end
end K50
set_option maxRecDepth 100000
set_option maxHeartbeats 4000000
/-! The law's drawn letters. -/
namespace K50
open PySem PySem.Spec PyProof.Rows L2 KF KD
theorem at_mem {α : Type} (f : α → V) (xs : List α) {x : Int} (h0 : 0 ≤ x) (h1 : x < xs.length) : ∃ y, y ∈ xs ∧ atI (xs.map f) x = some (f y) := by
  obtain ⟨j, rfl⟩ : ∃ j : Nat, x = (j : Int) := ⟨x.toNat, by omega⟩
  have hj : j < xs.length := by omega
  exact ⟨xs[j], List.getElem_mem hj, atI_nat (by rw [List.getElem?_map, List.getElem?_eq_getElem hj]; rfl)⟩
theorem p6 : (10 : Int) ^ (6 : Int).toNat = 1000000 := by decide
theorem p9 : (10 : Int) ^ (9 : Int).toNat = 1000000000 := by decide
section
variable {P : Program} {w : World} {K : PySem.W.Frag} {mg : Str → Option Value} {base : Heap}
def spHe (K : PySem.W.Frag) : Sp := fun vs H Q _ => ∃ (d : Addr) (n : Nat), vs = [.ref d] ∧ Dk H d (n + 20) ∧ ∀ (g : Addr) (hs : List Int) H', Frm d H H' → Dk H' d n → SqT K H' g (hs.map V.int) → 1 ≤ hs.length → hs.length ≤ 4 → (∀ x ∈ hs, 0 ≤ x) → Q (.ref g) H'
theorem scHe : FnScope ["deck", "h"] ["deck"] (defScope s_law_heard) := ⟨rfl, rfl, rfl, by decide +kernel, rfl, by decide +kernel, by decide +kernel⟩
theorem ok_law_heard (T : Txt K w mg) : FnOk P w K mg base CX0 2 (He.fAd K ("_law_heard", none)) (fdAt K (He.fAd K ("_law_heard", none))) ["deck"] (spHe K) := by
  refine T.F_law_heard.ok scHe (fun vs H Q E h => ?_) (fun cdv A outer s H vs Q E hr h => ?_)
  · obtain ⟨d, n, rfl, _⟩ := h
    rfl
  · obtain ⟨d, n, rfl, hD, kk⟩ := h
    refine ⟨_, PSs.nox (pss_one (ps_ret (pe_callTy call_tuple_of (by rfl) T.n_tuple PyProof.Rows.Boot.«tuple» (pa_cons (pe_lc (own := [("h", 1)]) (g := gName 1) (tt := tYes) (by rfl) scHe.nd (pi_range1 (by rfl) T.n_range (pa_cons (pe_op op_add pe_int (pe_call (ok_law_draw T) (hr.mono (by decide)) (by rfl) T.g_law_draw (T.F_law_draw).kp T.b_law_draw .nil pass0 (pa_cons (pv 0) (pa_cons pe_int pa_nil)))) pa_nil)) (blkOk_by (own := [("h", 1)]) (N := ["deck", "h"]) (sc := defScope s_law_heard) (by decide +kernel)) (fun _ _ _ _ _ => pg_name (i := 1) scHe.nd rfl (Or.inl rfl)) (fun _ _ _ _ _ => pts_nil) (fun _ _ _ _ _ => (pe_ix (r := rIxL K) ix_list (pe_lst (pa_cons pe_int (pa_cons (pe_call (ok_law_draw T) (hr.mono (by decide)) (by rfl) T.g_law_draw (T.F_law_draw).kp T.b_law_draw .nil pass0 (pa_cons (pv 0) (pa_cons pe_int pa_nil))) (pa_cons (pe_call (ok_law_draw T) (hr.mono (by decide)) (by rfl) T.g_law_draw (T.F_law_draw).kp T.b_law_draw .nil pass0 (pa_cons (pv 0) (pa_cons (pe_op op_pow pe_int pe_int) pa_nil))) pa_nil)))) (pe_call (ok_law_draw T) (hr.mono (by decide)) (by rfl) T.g_law_draw (T.F_law_draw).kp T.b_law_draw .nil pass0 (pa_cons (pv 0) (pa_cons pe_int pa_nil))) (fun _ _ => rfl)))) pa_nil)))), ?_⟩
    refine ⟨_, rfl, d, 4, n + 19, rfl, by decide, by decide, hD, fun x0 H1 a1 a2 f1 D1 => ⟨_, _, rfl, rfl, 1 + x0, rfl, by omega, by omega, fun D hD => ?_⟩⟩
    have hDd := D1.ne hD
    refine lc_range (lo := 0) (n := (1 + x0).toNat) (fun i H' => ∃ ns : List Int, H' D = some (.lst (ns.map V.int)) ∧ ns.length = i ∧ (∀ x ∈ ns, 0 ≤ x) ∧ Frm d H1 H' ∧ Dk H' d (n + 19 - 3 * i)) ⟨[], upd_same, rfl, (fun x h => (nomatch h)), Frm.of_new hD, D1.upd hDd⟩ (fun i H' hi h => ?_) (fun H' h => ?_)
    · obtain ⟨ns, hacc, hnl, hns, fr, DD⟩ := h
      have hi4 : i < 4 := by omega
      refine ⟨rfl, ?_⟩
      dsimp only [tYes]
      rw [if_pos rfl]
      refine ⟨_, rfl, d, 9, n + 18 - 3 * i, rfl, by decide, by decide, DD.le (by omega), fun x H2 b1 b2 f2 D2 => ?_⟩
      refine ⟨_, rfl, _, _, rfl, rfl, ⟨by decide, by decide, by decide⟩, d, _, n + 17 - 3 * i, rfl, by decide, by decide, D2.le (by omega), fun y H3 c1 c2 f3 D3 => ?_⟩
      refine ⟨(show 3 ≤ sizeLine by decide), fun p np => ⟨_, rfl, d, 3, n + 16 - 3 * i, rfl, by decide, by decide, (D3.same (new_same np)).le (by omega), fun z H4 d1 d2 f4 D4 => ?_⟩⟩
      have hpd := D3.ne np
      obtain ⟨m, hm, hat⟩ := at_mem V.int [0, x, y] d1 (by simpa using d2)
      have hm0 : 0 ≤ m := by
        simp at hm
        omega
      have f' : Frm d H' H4 := ((f2.trans f3).trans (Frm.of_new np)).trans f4
      refine ⟨p, _, _, _, rfl, rfl, SqL.of (f4 p _ hpd upd_same), hat, _, f' D _ hDd hacc, by rw [List.length_map]; exact Nat.lt_of_lt_of_le (show ns.length < 100 by omega) (by decide), ns ++ [m], ?_, by rw [List.length_append, hnl]; rfl, fun e he => ?_, fun b o hb w => ?_, (D4.upd hDd).le (by omega)⟩
      · rw [upd_same, List.map_append]
        rfl
      · rcases List.mem_append.mp he with he | he
        · exact hns e he
        · rw [List.mem_singleton.mp he]
          exact hm0
      · rw [upd_ne (ne_of_none w hD)]
        exact f' b o hb (fr b o hb w)
    · obtain ⟨ns, hacc, hnl, hns, fr, DD⟩ := h
      refine ⟨D, _, rfl, .inl ⟨SqL.of hacc, fun l nl => ?_⟩⟩
      have sl := new_same (o := .tup (ns.map V.int)) nl
      exact kk l ns _ ((f1.trans fr).trans (Frm.of_same sl)) ((DD.same sl).le (by omega)) (SqT.of upd_same) (by omega) (by omega) hns
def spDw (K : PySem.W.Frag) : Sp := fun vs H Q _ => ∃ (d : Addr) (n : Nat), vs = [.ref d] ∧ Dk H d (n + 100) ∧ ∀ (u : V) (l : Le) H', Frm d H H' → Dk H' d n → LeH K H' u l → l.is = true → l.row.length ≤ 32 → 1 ≤ l.heard.length → l.heard.length ≤ 4 → Q u H'
theorem scDw : FnScope ["deck", "row", "first", "ends", "at"] ["deck"] (defScope s_law_drawn) := ⟨rfl, rfl, rfl, by decide +kernel, rfl, by decide +kernel, by decide +kernel⟩
theorem ok_law_drawn (T : Txt K w mg) : FnOk P w K mg base CX0 3 (He.fAd K ("_law_drawn", none)) (fdAt K (He.fAd K ("_law_drawn", none))) ["deck"] (spDw K) := by
  refine T.F_law_drawn.ok scDw (fun vs H Q E h => ?_) (fun cdv A outer s H vs Q E hr h => ?_)
  · obtain ⟨d, n, rfl, _⟩ := h
    rfl
  · obtain ⟨d, n, rfl, hD, kk⟩ := h
    refine ⟨_, PSs.nox (pss_cons (ps_set (i := 1) scDw.nd rfl (Or.inl rfl) (pe_callTy call_tuple_of (by rfl) T.n_tuple PyProof.Rows.Boot.«tuple» (pa_cons (pe_lc (own := [("at", 4)]) (g := gName 4) (tt := tYes) (by rfl) scDw.nd (pi_range1 (by rfl) T.n_range (pa_cons (pe_ix (r := rIxL K) ix_list (pe_lst (pa_cons (pe_call (ok_law_draw T) (hr.mono (by decide)) (by rfl) T.g_law_draw (T.F_law_draw).kp T.b_law_draw .nil pass0 (pa_cons (pv 0) (pa_cons pe_int pa_nil))) (pa_cons pe_int (pa_cons pe_int pa_nil)))) (pe_call (ok_law_draw T) (hr.mono (by decide)) (by rfl) T.g_law_draw (T.F_law_draw).kp T.b_law_draw .nil pass0 (pa_cons (pv 0) (pa_cons pe_int pa_nil))) (fun _ _ => rfl)) pa_nil)) (blkOk_by (own := [("at", 4)]) (N := ["deck", "row", "first", "ends", "at"]) (sc := defScope s_law_drawn) (by decide +kernel)) (fun _ _ _ _ _ => pg_name (i := 4) scDw.nd rfl (Or.inl rfl)) (fun _ _ _ _ _ => pts_nil) (fun _ _ _ _ _ => (pe_call (ok_law_draw T) (hr.mono (by decide)) (by rfl) T.g_law_draw (T.F_law_draw).kp T.b_law_draw .nil pass0 (pa_cons (pv 0) (pa_cons pe_int pa_nil))))) pa_nil)))
      (pss_cons (ps_set (i := 2) scDw.nd rfl (Or.inl rfl) (pe_ix (r := rIxL K) ix_list (pe_lst (pa_cons pe_int (pa_cons (pe_call (ok_law_draw T) (hr.mono (by decide)) (by rfl) T.g_law_draw (T.F_law_draw).kp T.b_law_draw .nil pass0 (pa_cons (pv 0) (pa_cons pe_int pa_nil))) (pa_cons (pe_call (ok_law_draw T) (hr.mono (by decide)) (by rfl) T.g_law_draw (T.F_law_draw).kp T.b_law_draw .nil pass0 (pa_cons (pv 0) (pa_cons pe_int pa_nil))) pa_nil)))) (pe_call (ok_law_draw T) (hr.mono (by decide)) (by rfl) T.g_law_draw (T.F_law_draw).kp T.b_law_draw .nil pass0 (pa_cons (pv 0) (pa_cons pe_int pa_nil))) (fun _ _ => rfl)))
      (pss_cons (ps_set (i := 3) scDw.nd rfl (Or.inl rfl) (pe_ix (r := rIxL K) ix_list (pe_lst (pa_cons pe_non (pa_cons (pe_op op_add (pv 2) (pe_callB (r := Evl.rLenS K) call_len_seq (by rfl) T.n_len PyProof.Rows.Boot.«len» (pa_cons (pv 1) pa_nil))) (pa_cons (pe_op op_add (pe_op op_add (pv 2) (pe_callB (r := Evl.rLenS K) call_len_seq (by rfl) T.n_len PyProof.Rows.Boot.«len» (pa_cons (pv 1) pa_nil))) (pe_call (ok_law_draw T) (hr.mono (by decide)) (by rfl) T.g_law_draw (T.F_law_draw).kp T.b_law_draw .nil pass0 (pa_cons (pv 0) (pa_cons pe_int pa_nil)))) pa_nil)))) (pe_call (ok_law_draw T) (hr.mono (by decide)) (by rfl) T.g_law_draw (T.F_law_draw).kp T.b_law_draw .nil pass0 (pa_cons (pv 0) (pa_cons pe_int pa_nil))) (fun _ _ => rfl)))
      (pss_one (ps_ret (pe_tup (pa_cons (pe_ix (r := rIxL K) ix_list (pe_lst (pa_cons (pe_call (ok_law_draw T) (hr.mono (by decide)) (by rfl) T.g_law_draw (T.F_law_draw).kp T.b_law_draw .nil pass0 (pa_cons (pv 0) (pa_cons pe_int pa_nil))) (pa_cons (pe_call (ok_law_draw T) (hr.mono (by decide)) (by rfl) T.g_law_draw (T.F_law_draw).kp T.b_law_draw .nil pass0 (pa_cons (pv 0) (pa_cons (pe_op op_pow pe_int pe_int) pa_nil))) pa_nil))) (pe_call (ok_law_draw T) (hr.mono (by decide)) (by rfl) T.g_law_draw (T.F_law_draw).kp T.b_law_draw .nil pass0 (pa_cons (pv 0) (pa_cons pe_int pa_nil))) (fun _ _ => rfl)) (pa_cons (pv 2) (pa_cons (pv 1) (pa_cons (pv 3) (pa_cons (pe_call (ok_law_heard T) (hr.mono (by decide)) (by rfl) T.g_law_heard (T.F_law_heard).kp T.b_law_heard .nil pass0 (pa_cons (pv 0) pa_nil)) pa_nil))))))))))), ?_⟩
    refine ⟨_, rfl, d, 6, n + 99, rfl, by decide, by decide, hD, fun x H1 a1 a2 f1 D1 => ?_⟩
    refine ⟨(show 3 ≤ sizeLine by decide), fun p np => ⟨_, rfl, d, 3, n + 98, rfl, by decide, by decide, D1.same (new_same np), fun y H2 b1 b2 f2 D2 => ?_⟩⟩
    have hpd := D1.ne np
    obtain ⟨m, hm, hat⟩ := at_mem V.int [x, 32, 31] b1 (by simpa using b2)
    have hm0 : 0 ≤ m ∧ m ≤ 32 := by
      simp at hm
      omega
    refine ⟨p, _, _, _, rfl, rfl, SqL.of (f2 p _ hpd upd_same), hat, m, rfl, by omega, by omega, fun D hD => ?_⟩
    have hDd := D2.ne hD
    have f02 := (f1.trans (Frm.of_new np)).trans f2
    refine lc_range (lo := 0) (n := m.toNat) (fun i H' => ∃ ns : List Int, H' D = some (.lst (ns.map V.int)) ∧ ns.length = i ∧ ns.all prOk = true ∧ Frm d H2 H' ∧ Dk H' d (n + 98 - i)) ⟨[], upd_same, rfl, rfl, Frm.of_new hD, D2.upd hDd⟩ (fun i H' hi h => ?_) (fun H' h => ?_)
    · obtain ⟨ns, hacc, hnl, hns, fr, DD⟩ := h
      have hi4 : i < 32 := by omega
      refine ⟨rfl, ?_⟩
      dsimp only [tYes]
      rw [if_pos rfl]
      refine ⟨_, rfl, d, 64, n + 97 - i, rfl, by decide, by decide, DD.le (by omega), fun x H3 c1 c2 f3 D3 => ?_⟩
      refine ⟨_, f3 D _ hDd hacc, by rw [List.length_map]; exact Nat.lt_of_lt_of_le (show ns.length < 100 by omega) (by decide), ns ++ [x], ?_, by rw [List.length_append, hnl]; rfl, ?_, fun b o hb w => ?_, (D3.upd hDd).le (by omega)⟩
      · rw [upd_same, List.map_append]
        rfl
      · rw [List.all_append, hns]
        simp [prOk]
        omega
      · rw [upd_ne (ne_of_none w hD)]
        exact f3 b o hb (fr b o hb w)
    obtain ⟨ns, hacc, hnl, hns, fr, DD⟩ := h
    refine ⟨D, _, rfl, .inl ⟨SqL.of hacc, fun r nr => ?_⟩⟩
    have sr := new_same (o := .tup (ns.map V.int)) nr
    have hrd := DD.ne nr
    have D3 := (DD.same sr).le (show n + 60 ≤ n + 98 - m.toNat by omega)
    have f3 := (f02.trans fr).trans (Frm.of_same sr)
    have q3 : SqT K (upd H' r (.tup (ns.map V.int))) r (ns.map V.int) := SqT.of upd_same
    generalize (upd H' r (.tup (ns.map V.int))) = H3 at D3 f3 q3 ⊢
    refine ⟨_, rfl, d, 30, n + 59, rfl, by decide, by decide, D3, fun x1 H4 e1 e2 f4 D4 => ?_⟩
    refine ⟨_, rfl, d, 330, n + 58, rfl, by decide, by decide, D4, fun x2 H5 e3 e4 f5 D5 => ?_⟩
    refine ⟨(show 3 ≤ sizeLine by decide), fun p2 np2 => ⟨_, rfl, d, 3, n + 57, rfl, by decide, by decide, D5.same (new_same np2), fun x3 H6 e5 e6 f6 D6 => ?_⟩⟩
    have hpd2 := D5.ne np2
    obtain ⟨first, hf, hat2⟩ := at_mem V.int [0, x1, x2] e5 (by simpa using e6)
    have hf0 : 0 ≤ first ∧ first ≤ 330 := by
      simp at hf
      omega
    refine ⟨p2, _, _, _, rfl, rfl, SqL.of (f6 p2 _ hpd2 upd_same), hat2, ?_⟩
    have g36 := ((f4.trans f5).trans (Frm.of_new np2)).trans f6
    obtain ⟨xd3, hxd3⟩ := D3.lst
    have q6 := (g36.tf hxd3).sq q3
    refine ⟨_, rfl, _, rfl, r, _, rfl, .inr q6, _, _, rfl, rfl, _, rfl, _, rfl, r, _, rfl, .inr q6, _, _, rfl, rfl, _, rfl, d, 20, n + 56, rfl, by decide, by decide, D6, fun x4 H7 e7 e8 f7 D7 => ⟨_, _, rfl, rfl, ?_⟩⟩
    rw [List.length_map]
    refine ⟨(show 3 ≤ sizeLine by decide), fun p3 np3 => ⟨_, rfl, d, 3, n + 55, rfl, by decide, by decide, D7.same (new_same np3), fun x5 H8 e9 e10 f8 D8 => ?_⟩⟩
    have hpd3 := D7.ne np3
    obtain ⟨en, hen, hat3⟩ := at_mem ov [none, some (first + (ns.length : Nat)), some (first + (ns.length : Nat) + x4)] e9 (by simpa using e10)
    have hen0 : endOk en (first + (ns.length : Nat)) = true := by
      simp at hen
      rcases hen with rfl | rfl | rfl
      · rfl
      · exact decide_eq_true (by omega)
      · exact decide_eq_true (by omega)
    refine ⟨p3, _, _, _, rfl, rfl, SqL.of (f8 p3 _ hpd3 upd_same), hat3, ?_⟩
    refine ⟨_, rfl, d, 6, n + 54, rfl, by decide, by decide, D8, fun x6 H9 e11 e12 f9 D9 => ?_⟩
    refine ⟨_, rfl, _, _, rfl, rfl, ⟨by decide, by decide, by decide⟩, d, _, n + 53, rfl, by decide, by decide, D9, fun x7 H10 e13 e14 f10 D10 => ?_⟩
    refine ⟨(show 2 ≤ sizeLine by decide), fun p4 np4 => ⟨_, rfl, d, 2, n + 52, rfl, by decide, by decide, D10.same (new_same np4), fun x8 H11 e15 e16 f11 D11 => ?_⟩⟩
    have hpd4 := D10.ne np4
    obtain ⟨house, hh, hat4⟩ := at_mem V.int [x6, x7] e15 (by simpa using e16)
    have hh0 : 0 ≤ house := by
      simp at hh
      omega
    refine ⟨p4, _, _, _, rfl, rfl, SqL.of (f11 p4 _ hpd4 upd_same), hat4, ?_⟩
    have g311 := (((((g36.trans f7).trans (Frm.of_new np3)).trans f8).trans f9).trans f10).trans ((Frm.of_new np4).trans f11)
    refine ⟨_, rfl, _, rfl, _, rfl, _, rfl, d, n + 32, rfl, D11.le (by omega), fun g hs H12 f12 D12 q12 h1 h4 hpos => ⟨(show 5 ≤ sizeLine by decide), fun u nu => ?_⟩⟩
    have su := new_same (o := .tup [.int house, .int first, .ref r, ov en, .ref g]) nu
    have g312 := g311.trans f12
    refine kk (.ref u) ⟨house, first, ns, en, hs⟩ _ ((f3.trans g312).trans (Frm.of_same su)) ((D12.same su).le (by omega)) ⟨u, r, g, rfl, SqT.of upd_same, (same_tf su).sq ((g312.tf hxd3).sq q3), (same_tf su).sq q12⟩ ?_ (by show ns.length ≤ 32; omega) h1 h4
    show (decide (0 ≤ house) && (decide (0 ≤ first) && (decide (ns.length ≤ 32) && (ns.all prOk && (endOk en (first + (ns.length : Nat)) && hs.all fun t => decide (0 ≤ t)))))) = true
    rw [decide_eq_true hh0, decide_eq_true hf0.1, decide_eq_true (show ns.length ≤ 32 by omega), hns, hen0, List.all_eq_true.mpr fun x hx => decide_eq_true (hpos x hx)]
    rfl
end
end K50
set_option maxRecDepth 100000
set_option maxHeartbeats 4000000
/-! Bent letters. -/
namespace K50
open PySem PySem.Spec PyProof.Rows L2 KF KD
theorem cat_ints {K : PySem.W.Frag} {H : Hp} {a b : Addr} {ns ms : List Int} {Q : VK} (ha : SqT K H a (ns.map V.int)) (hb : SqT K H b (ms.map V.int)) (hl : ns.length + ms.length ≤ 1000) (q : ∀ u H', Same H H' → SqT K H' u ((ns ++ ms).map V.int) → Q (.ref u) H') : rCatA K (.ref a) (.ref b) H Q := by
  refine ⟨a, b, _, _, rfl, rfl, ha, hb, by rw [List.length_map, List.length_map]; exact Nat.le_trans hl (by decide), fun e => ?_, fun _ e => ?_, fun _ _ p np => ?_⟩
  · have e2 : ns = [] := List.map_eq_nil_iff.mp e
    subst e2
    exact q b H (Same.refl H) hb
  · have e2 : ms = [] := List.map_eq_nil_iff.mp e
    subst e2
    rw [List.append_nil] at q
    exact q a H (Same.refl H) ha
  · refine q p _ (new_same np) ?_
    rw [List.map_append]
    exact SqT.of upd_same
theorem sl_ints {K : PySem.W.Frag} {H : Hp} {a : Addr} {ns : List Int} {lo hi : Option Int} {Q : VK} (ha : SqT K H a (ns.map V.int)) (q : ∀ u (ms : List Int) H', Same H H' → SqT K H' u (ms.map V.int) → ms.length ≤ ns.length → Q (.ref u) H') : rSlA K (.ref a) lo hi H Q := by
  refine ⟨a, _, rfl, ha, fun _ => q a ns H (Same.refl H) ha (Nat.le_refl _), fun _ p np => ?_⟩
  have e : cutV (ns.map V.int) lo hi = ((ns.drop (HT.sIx (ns.map V.int).length 0 lo)).take (HT.sIx (ns.map V.int).length (ns.map V.int).length hi - HT.sIx (ns.map V.int).length 0 lo)).map V.int := by
    unfold cutV
    rw [List.map_take, List.map_drop]
  rw [e]
  refine q p _ _ (new_same np) (SqT.of upd_same) ?_
  rw [List.length_take, List.length_drop]
  omega
section
variable {P : Program} {w : World} {K : PySem.W.Frag} {mg : Str → Option Value} {base : Heap}
def spBn (K : PySem.W.Frag) : Sp := fun vs H Q _ => ∃ (d : Addr) (v : V) (l : Le) (n : Nat), vs = [.ref d, v] ∧ Dk H d (n + 20) ∧ LeH K H v l ∧ l.row.length ≤ 32 ∧ 1 ≤ l.heard.length ∧ l.heard.length ≤ 4 ∧
  ∀ (u : V) (l' : Le) H', Frm d H H' → Dk H' d n → LeH K H' u l' → l'.row.length ≤ 100 → l'.heard.length ≤ 20 → Q u H'
theorem scBn : FnScope ["deck", "told", "house", "first", "row", "ends", "heard", "way", "reach", "at", "press"] ["deck", "told"] (defScope s_law_bent) := ⟨rfl, rfl, rfl, by decide +kernel, rfl, by decide +kernel, by decide +kernel⟩
theorem ok_law_bent (T : Txt K w mg) : FnOk P w K mg base CX0 3 (He.fAd K ("_law_bent", none)) (fdAt K (He.fAd K ("_law_bent", none))) ["deck", "told"] (spBn K) := by
  refine T.F_law_bent.ok scBn (fun vs H Q E h => ?_) (fun cdv A outer s H vs Q E hr h => ?_)
  · obtain ⟨d, v, l, n, rfl, _⟩ := h
    rfl
  · obtain ⟨d, v, l, n, rfl, hD, ⟨t, r, g, rfl, sq, sr, sg⟩, hrl, hg1, hgl, kk⟩ := h
    refine ⟨_, PSs.nox (pss_cons (ps_asg (pv 1) (pg_tup (by rfl) (pgs_cons (pg_name (i := 2) scBn.nd rfl (Or.inl rfl)) (pgs_cons (pg_name (i := 3) scBn.nd rfl (Or.inl rfl)) (pgs_cons (pg_name (i := 4) scBn.nd rfl (Or.inl rfl)) (pgs_cons (pg_name (i := 5) scBn.nd rfl (Or.inl rfl)) (pgs_cons (pg_name (i := 6) scBn.nd rfl (Or.inl rfl)) pgs_nil)))))))
      (pss_cons (ps_set (i := 7) scBn.nd rfl (Or.inl rfl) (pe_call (ok_law_draw T) (hr.mono (by decide)) (by rfl) T.g_law_draw (T.F_law_draw).kp T.b_law_draw .nil pass0 (pa_cons (pv 0) (pa_cons pe_int pa_nil))))
      (pss_cons (ps_if (pt_cmpR op_eq (pv 7) pe_int (nomark _)) (pss_one (ps_ret (pe_tup (pa_cons (pe_op op_sub (pe_un un_neg pe_int) (pe_call (ok_law_draw T) (hr.mono (by decide)) (by rfl) T.g_law_draw (T.F_law_draw).kp T.b_law_draw .nil pass0 (pa_cons (pv 0) (pa_cons pe_int pa_nil)))) (pa_cons (pv 3) (pa_cons (pv 4) (pa_cons (pv 5) (pa_cons (pv 6) pa_nil)))))))) pss_nil)
      (pss_cons (ps_if (pt_cmpR op_eq (pv 7) pe_int (nomark _)) (pss_one (ps_ret (pe_tup (pa_cons (pv 2) (pa_cons (pe_ix (r := rIxL K) ix_list (pe_lst (pa_cons (pe_un un_neg pe_int) (pa_cons (pe_op op_add (pv 3) pe_int) (pa_cons (pe_op op_sub (pe_un un_neg pe_int) (pe_call (ok_law_draw T) (hr.mono (by decide)) (by rfl) T.g_law_draw (T.F_law_draw).kp T.b_law_draw .nil pass0 (pa_cons (pv 0) (pa_cons pe_int pa_nil)))) pa_nil)))) (pe_call (ok_law_draw T) (hr.mono (by decide)) (by rfl) T.g_law_draw (T.F_law_draw).kp T.b_law_draw .nil pass0 (pa_cons (pv 0) (pa_cons pe_int pa_nil))) (fun _ _ => rfl)) (pa_cons (pv 4) (pa_cons (pv 5) (pa_cons (pv 6) pa_nil)))))))) pss_nil)
      (pss_cons (ps_if (pt_cmpR op_eq (pv 7) pe_int (nomark _)) (pss_cons (ps_set (i := 8) scBn.nd rfl (Or.inl rfl) (pe_op op_add (pv 3) (pe_callB (r := Evl.rLenS K) call_len_seq (by rfl) T.n_len PyProof.Rows.Boot.«len» (pa_cons (pv 4) pa_nil))))
      (pss_one (ps_ret (pe_tup (pa_cons (pv 2) (pa_cons (pv 3) (pa_cons (pv 4) (pa_cons (pe_ix (r := rIxL K) ix_list (pe_lst (pa_cons (pe_op op_sub (pv 8) pe_int) (pa_cons (pv 8) (pa_cons (pe_un un_neg pe_int) (pa_cons pe_int (pa_cons (pe_op op_sub (pe_op op_sub (pv 8) pe_int) (pe_call (ok_law_draw T) (hr.mono (by decide)) (by rfl) T.g_law_draw (T.F_law_draw).kp T.b_law_draw .nil pass0 (pa_cons (pv 0) (pa_cons pe_int pa_nil)))) pa_nil)))))) (pe_call (ok_law_draw T) (hr.mono (by decide)) (by rfl) T.g_law_draw (T.F_law_draw).kp T.b_law_draw .nil pass0 (pa_cons (pv 0) (pa_cons pe_int pa_nil))) (fun _ _ => rfl)) (pa_cons (pv 6) pa_nil))))))))) pss_nil)
      (pss_cons (ps_if (pt_cmpR op_eq (pv 7) pe_int (nomark _)) (pss_cons (ps_set (i := 9) scBn.nd rfl (Or.inl rfl) (pe_call (ok_law_draw T) (hr.mono (by decide)) (by rfl) T.g_law_draw (T.F_law_draw).kp T.b_law_draw .nil pass0 (pa_cons (pv 0) (pa_cons (pe_callB (r := Evl.rLenS K) call_len_seq (by rfl) T.n_len PyProof.Rows.Boot.«len» (pa_cons (pv 6) pa_nil)) pa_nil))))
      (pss_one (ps_ret (pe_tup (pa_cons (pv 2) (pa_cons (pv 3) (pa_cons (pv 4) (pa_cons (pv 5) (pa_cons (pe_op (show OpR _ _ (rCatA K) from op_catA) (pe_op (show OpR _ _ (rCatA K) from op_catA) (pe_slice (show SlR _ (rSlA K) from sl_tupA) (pv 6) po_none (po_some (pv 9))) (pe_tup (pa_cons (pe_op op_sub (pe_un un_neg pe_int) (pe_call (ok_law_draw T) (hr.mono (by decide)) (by rfl) T.g_law_draw (T.F_law_draw).kp T.b_law_draw .nil pass0 (pa_cons (pv 0) (pa_cons pe_int pa_nil)))) pa_nil))) (pe_slice (show SlR _ (rSlA K) from sl_tupA) (pv 6) (po_some (pe_op op_add (pv 9) pe_int)) po_none)) pa_nil))))))))) pss_nil)
      (pss_cons (ps_set (i := 9) scBn.nd rfl (Or.inl rfl) (pe_call (ok_law_draw T) (hr.mono (by decide)) (by rfl) T.g_law_draw (T.F_law_draw).kp T.b_law_draw .nil pass0 (pa_cons (pv 0) (pa_cons (pe_op op_add (pe_callB (r := Evl.rLenS K) call_len_seq (by rfl) T.n_len PyProof.Rows.Boot.«len» (pa_cons (pv 4) pa_nil)) pe_int) pa_nil))))
      (pss_cons (ps_set (i := 10) scBn.nd rfl (Or.inl rfl) (pe_ix (r := rIxL K) ix_list (pe_lst (pa_cons pe_int (pa_cons (pe_un un_neg pe_int) (pa_cons pe_int (pa_cons pe_int (pa_cons (pe_op op_add pe_int (pe_call (ok_law_draw T) (hr.mono (by decide)) (by rfl) T.g_law_draw (T.F_law_draw).kp T.b_law_draw .nil pass0 (pa_cons (pv 0) (pa_cons (pe_op op_pow pe_int pe_int) pa_nil)))) (pa_cons (pe_op op_sub (pe_un un_neg pe_int) (pe_call (ok_law_draw T) (hr.mono (by decide)) (by rfl) T.g_law_draw (T.F_law_draw).kp T.b_law_draw .nil pass0 (pa_cons (pv 0) (pa_cons pe_int pa_nil)))) pa_nil))))))) (pe_call (ok_law_draw T) (hr.mono (by decide)) (by rfl) T.g_law_draw (T.F_law_draw).kp T.b_law_draw .nil pass0 (pa_cons (pv 0) (pa_cons pe_int pa_nil))) (fun _ _ => rfl)))
      (pss_cons (ps_if (pt_cmpR op_eq (pv 7) pe_int (nomark _)) (pss_one (ps_ret (pe_tup (pa_cons (pv 2) (pa_cons (pv 3) (pa_cons (pe_op (show OpR _ _ (rCatA K) from op_catA) (pe_op (show OpR _ _ (rCatA K) from op_catA) (pe_slice (show SlR _ (rSlA K) from sl_tupA) (pv 4) po_none (po_some (pv 9))) (pe_tup (pa_cons (pv 10) pa_nil))) (pe_slice (show SlR _ (rSlA K) from sl_tupA) (pv 4) (po_some (pe_op op_add (pv 9) pe_int)) po_none)) (pa_cons (pv 5) (pa_cons (pv 6) pa_nil)))))))) pss_nil)
      (pss_cons (ps_if (pt_cmpR op_eq (pv 7) pe_int (nomark _)) (pss_one (ps_ret (pe_tup (pa_cons (pv 2) (pa_cons (pv 3) (pa_cons (pe_op (show OpR _ _ (rCatA K) from op_catA) (pe_op (show OpR _ _ (rCatA K) from op_catA) (pe_slice (show SlR _ (rSlA K) from sl_tupA) (pv 4) po_none (po_some (pv 9))) (pe_tup (pa_cons (pe_call (ok_law_draw T) (hr.mono (by decide)) (by rfl) T.g_law_draw (T.F_law_draw).kp T.b_law_draw .nil pass0 (pa_cons (pv 0) (pa_cons pe_int pa_nil))) pa_nil))) (pe_slice (show SlR _ (rSlA K) from sl_tupA) (pv 4) (po_some (pv 9)) po_none)) (pa_cons (pv 5) (pa_cons (pv 6) pa_nil)))))))) pss_nil)
      (pss_one (ps_ret (pe_tup (pa_cons (pv 2) (pa_cons (pv 3) (pa_cons (pe_op (show OpR _ _ (rCatA K) from op_catA) (pe_slice (show SlR _ (rSlA K) from sl_tupA) (pv 4) po_none (po_some (pv 9))) (pe_slice (show SlR _ (rSlA K) from sl_tupA) (pv 4) (po_some (pe_op op_add (pv 9) pe_int)) po_none)) (pa_cons (pv 5) (pa_cons (pv 6) pa_nil)))))))))))))))))), ?_⟩
    refine ⟨_, rfl, t, _, rfl, sq, rfl, _, _, rfl, _, _, rfl, _, _, rfl, _, _, rfl, _, _, rfl, rfl, ?_⟩
    refine ⟨_, rfl, d, 7, n + 19, rfl, by decide, by decide, hD, fun way H1 w0 w1 f1 D1 => ?_⟩
    obtain ⟨xd, hxd⟩ := hD.lst
    have t1 := f1.tf hxd
    have sr1 := t1.sq sr
    have sg1 := t1.sq sg
    obtain ⟨xd1, hxd1⟩ := D1.lst
    have fin : ∀ (h0 f0 : Int) (r0 g0 : Addr) (rs gs : List Int) (e0 : Option Int) (H2 : Hp), Frm d H H2 → Dk H2 d n → SqT K H2 r0 (rs.map V.int) → SqT K H2 g0 (gs.map V.int) → rs.length ≤ 100 → gs.length ≤ 20 → ∀ u, H2 u = none → Q (.ref u) (upd H2 u (.tup [.int h0, .int f0, .ref r0, ov e0, .ref g0])) := fun h0 f0 r0 g0 rs gs e0 H2 f2 D2 q1 q2 l1 l2 u nu => by
      have su := new_same (o := .tup [.int h0, .int f0, .ref r0, ov e0, .ref g0]) nu
      exact kk (.ref u) ⟨h0, f0, rs, e0, gs⟩ _ (f2.trans (Frm.of_same su)) (D2.same su) ⟨u, r0, g0, rfl, SqT.of upd_same, (same_tf su).sq q1, (same_tf su).sq q2⟩ l1 l2
    have up : ∀ {Hk : Hp}, Frm d H Hk → SqT K Hk r (l.row.map V.int) ∧ SqT K Hk g (l.heard.map V.int) := fun f => ⟨(f.tf hxd).sq sr, (f.tf hxd).sq sg⟩
    refine ⟨_, rfl, by rfl, _, rfl, ite2 (fun z => ?_) (fun z => ?_)⟩
    · refine ⟨_, rfl, _, rfl, d, 3, n + 18, rfl, by decide, by decide, D1, fun x H2 x0 x1 f2 D2 => ?_⟩
      have F2 := f1.trans f2
      exact ⟨_, _, rfl, rfl, _, rfl, _, rfl, _, rfl, _, rfl, (show 5 ≤ sizeLine by decide), fun u nu => fin _ _ _ _ _ _ _ _ F2 (D2.le (by omega)) (up F2).1 (up F2).2 (by omega) (by omega) u nu⟩
    dsimp only [tNext]
    refine ⟨_, rfl, by rfl, _, rfl, ite2 (fun z => ?_) (fun z => ?_)⟩
    · refine ⟨_, rfl, _, rfl, _, rfl, _, _, rfl, rfl, _, rfl, _, rfl, d, 50, n + 18, rfl, by decide, by decide, D1, fun x H2 x0 x1 f2 D2 => ?_⟩
      refine ⟨_, _, rfl, rfl, (show 3 ≤ sizeLine by decide), fun p np => ⟨_, rfl, d, 3, n + 17, rfl, by decide, by decide, D2.same (new_same np), fun y H3 y0 y1 f3 D3 => ?_⟩⟩
      have hpd := D2.ne np
      obtain ⟨m, hm, hat⟩ := at_mem V.int [-1, l.first + 1, -1 - x] y0 (by simpa using y1)
      have F3 := ((f1.trans f2).trans (Frm.of_new np)).trans f3
      exact ⟨p, _, _, _, rfl, rfl, SqL.of (f3 p _ hpd upd_same), hat, _, rfl, _, rfl, _, rfl, (show 5 ≤ sizeLine by decide), fun u nu => fin _ _ _ _ _ _ _ _ F3 (D3.le (by omega)) (up F3).1 (up F3).2 (by omega) (by omega) u nu⟩
    dsimp only [tNext]
    refine ⟨_, rfl, by rfl, _, rfl, ite2 (fun z => ?_) (fun z => ?_)⟩
    · refine ⟨_, rfl, _, rfl, r, _, rfl, .inr sr1, _, _, rfl, rfl, ?_⟩
      refine ⟨_, rfl, _, rfl, _, rfl, _, rfl, _, _, rfl, rfl, _, rfl, _, rfl, _, rfl, _, _, rfl, rfl, _, rfl, d, 40, n + 18, rfl, by decide, by decide, D1, fun x H2 x0 x1 f2 D2 => ?_⟩
      refine ⟨_, _, rfl, rfl, (show 5 ≤ sizeLine by decide), fun p np => ⟨_, rfl, d, 5, n + 17, rfl, by decide, by decide, D2.same (new_same np), fun y H3 y0 y1 f3 D3 => ?_⟩⟩
      have hpd := D2.ne np
      obtain ⟨m, hm, hat⟩ := at_mem V.int [l.first + ((l.row.map V.int).length : Nat) - 1, l.first + ((l.row.map V.int).length : Nat), -1, 0, l.first + ((l.row.map V.int).length : Nat) - 1 - x] y0 (by simpa using y1)
      have F3 := ((f1.trans f2).trans (Frm.of_new np)).trans f3
      exact ⟨p, _, _, _, rfl, rfl, SqL.of (f3 p _ hpd upd_same), hat, _, rfl, (show 5 ≤ sizeLine by decide), fun u nu => fin _ _ _ _ _ _ (some m) _ F3 (D3.le (by omega)) (up F3).1 (up F3).2 (by omega) (by omega) u nu⟩
    dsimp only [tNext]
    refine ⟨_, rfl, by rfl, _, rfl, ite2 (fun z => ?_) (fun z => ?_)⟩
    · refine ⟨_, rfl, _, rfl, g, _, rfl, .inr sg1, d, _, n + 18, rfl, by rw [List.length_map]; omega, by rw [List.length_map]; omega, D1, fun x H2 x0 x1 f2 D2 => ?_⟩
      have F2 := f1.trans f2
      refine ⟨_, rfl, _, rfl, _, rfl, _, rfl, _, rfl, _, rfl, _, rfl, sl_ints (up F2).2 (fun u1 ms1 H3 s3 q3 l3 => ?_)⟩
      refine ⟨_, rfl, _, rfl, d, 2, n + 17, rfl, by decide, by decide, D2.same s3, fun y H4 y0 y1 f4 D4 => ?_⟩
      refine ⟨_, _, rfl, rfl, (show 1 ≤ sizeLine by decide), fun p np => ?_⟩
      obtain ⟨xd3, hxd3⟩ := (D2.same s3).lst
      have sp := new_same (o := .tup [.int (-1 - y)]) np
      refine cat_ints (ns := ms1) (ms := [-1 - y]) ((same_tf sp).sq ((f4.tf hxd3).sq q3)) (SqT.of upd_same) (by simp; omega) (fun u2 H5 s5 q5 => ?_)
      have F5 := (((F2.trans (Frm.of_same s3)).trans f4).trans (Frm.of_same sp)).trans (Frm.of_same s5)
      refine ⟨_, rfl, _, rfl, _, _, rfl, rfl, _, rfl, ?_⟩
      dsimp only [tNoPart]
      refine sl_ints (up F5).2 (fun u3 ms3 H6 s6 q6 l6 => ?_)
      refine cat_ints ((same_tf s6).sq q5) q6 (by simp; omega) (fun u4 H7 s7 q7 => ⟨(show 5 ≤ sizeLine by decide), fun u nu => ?_⟩)
      have F7 := (F5.trans (Frm.of_same s6)).trans (Frm.of_same s7)
      exact fin _ _ _ _ _ _ _ _ F7 (((((D4.same sp).same s5).same s6).same s7).le (by omega)) (up F7).1 q7 (by omega) (by simp; omega) u nu
    dsimp only [tNext]
    refine ⟨_, rfl, _, rfl, r, _, rfl, .inr sr1, _, _, rfl, rfl, d, _, n + 18, rfl, by omega, by rw [List.length_map]; omega, D1, fun x H2 x0 x1 f2 D2 => ?_⟩
    refine ⟨_, rfl, _, rfl, _, _, rfl, rfl, ⟨by decide, by decide, by decide⟩, d, _, n + 17, rfl, by decide, by decide, D2, fun a H3 a0 a1 f3 D3 => ?_⟩
    refine ⟨_, _, rfl, rfl, _, rfl, _, rfl, d, 99, n + 16, rfl, by decide, by decide, D3, fun b H4 b0 b1 f4 D4 => ?_⟩
    refine ⟨_, _, rfl, rfl, (show 6 ≤ sizeLine by decide), fun p np => ⟨_, rfl, d, 6, n + 15, rfl, by decide, by decide, D4.same (new_same np), fun c H5 c0 c1 f5 D5 => ?_⟩⟩
    have hpd := D4.ne np
    obtain ⟨m, hm, hat⟩ := at_mem V.int [64, -1, 63, 0, 64 + a, -1 - b] c0 (by simpa using c1)
    have F5 := ((((f1.trans f2).trans f3).trans f4).trans (Frm.of_new np)).trans f5
    refine ⟨p, _, _, _, rfl, rfl, SqL.of (f5 p _ hpd upd_same), hat, ?_⟩
    refine ⟨_, rfl, by rfl, _, rfl, ite2 (fun z => ?_) (fun z => ?_)⟩
    · refine ⟨_, rfl, _, rfl, _, rfl, _, rfl, _, rfl, sl_ints (up F5).1 (fun u1 ms1 H6 s6 q6 l6 => ?_)⟩
      refine ⟨_, rfl, (show 1 ≤ sizeLine by decide), fun p2 np2 => ?_⟩
      have sp := new_same (o := .tup [.int m]) np2
      refine cat_ints (ns := ms1) (ms := [m]) ((same_tf sp).sq q6) (SqT.of upd_same) (by simp; omega) (fun u2 H7 s7 q7 => ?_)
      have F7 := ((F5.trans (Frm.of_same s6)).trans (Frm.of_same sp)).trans (Frm.of_same s7)
      refine ⟨_, rfl, _, rfl, _, _, rfl, rfl, _, rfl, ?_⟩
      dsimp only [tNoPart]
      refine sl_ints (up F7).1 (fun u3 ms3 H8 s8 q8 l8 => ?_)
      refine cat_ints ((same_tf s8).sq q7) q8 (by simp; omega) (fun u4 H9 s9 q9 => ⟨_, rfl, _, rfl, (show 5 ≤ sizeLine by decide), fun u nu => ?_⟩)
      have F9 := (F7.trans (Frm.of_same s8)).trans (Frm.of_same s9)
      exact fin _ _ _ _ _ _ _ _ F9 ((((((D5.same s6).same sp).same s7).same s8).same s9).le (by omega)) q9 (up F9).2 (by simp; omega) (by omega) u nu
    dsimp only [tNext]
    refine ⟨_, rfl, by rfl, _, rfl, ite2 (fun z => ?_) (fun z => ?_)⟩
    · refine ⟨_, rfl, _, rfl, _, rfl, _, rfl, _, rfl, sl_ints (up F5).1 (fun u1 ms1 H6 s6 q6 l6 => ?_)⟩
      refine ⟨_, rfl, d, 64, n + 14, rfl, by decide, by decide, D5.same s6, fun y H7 y0 y1 f7 D7 => ⟨(show 1 ≤ sizeLine by decide), fun p2 np2 => ?_⟩⟩
      obtain ⟨xd6, hxd6⟩ := (D5.same s6).lst
      have sp := new_same (o := .tup [.int y]) np2
      refine cat_ints (ns := ms1) (ms := [y]) ((same_tf sp).sq ((f7.tf hxd6).sq q6)) (SqT.of upd_same) (by simp; omega) (fun u2 H8 s8 q8 => ?_)
      have F8 := (((F5.trans (Frm.of_same s6)).trans f7).trans (Frm.of_same sp)).trans (Frm.of_same s8)
      refine ⟨_, rfl, _, rfl, _, rfl, ?_⟩
      dsimp only [tNoPart]
      refine sl_ints (up F8).1 (fun u3 ms3 H9 s9 q9 l9 => ?_)
      refine cat_ints ((same_tf s9).sq q8) q9 (by simp; omega) (fun u4 H10 s10 q10 => ⟨_, rfl, _, rfl, (show 5 ≤ sizeLine by decide), fun u nu => ?_⟩)
      have F10 := (F8.trans (Frm.of_same s9)).trans (Frm.of_same s10)
      exact fin _ _ _ _ _ _ _ _ F10 (((((D7.same sp).same s8).same s9).same s10).le (by omega)) q10 (up F10).2 (by simp; omega) (by omega) u nu
    dsimp only [tNext]
    refine ⟨_, rfl, _, rfl, _, rfl, _, rfl, _, rfl, sl_ints (up F5).1 (fun u1 ms1 H6 s6 q6 l6 => ?_)⟩
    have F6 := F5.trans (Frm.of_same s6)
    refine ⟨_, rfl, _, rfl, _, _, rfl, rfl, _, rfl, ?_⟩
    dsimp only [tNoPart]
    refine sl_ints (up F6).1 (fun u3 ms3 H8 s8 q8 l8 => ?_)
    refine cat_ints ((same_tf s8).sq q6) q8 (by omega) (fun u4 H9 s9 q9 => ⟨_, rfl, _, rfl, (show 5 ≤ sizeLine by decide), fun u nu => ?_⟩)
    have F9 := (F6.trans (Frm.of_same s8)).trans (Frm.of_same s9)
    exact fin _ _ _ _ _ _ _ _ F9 ((((D5.same s6).same s8).same s9).le (by omega)) q9 (up F9).2 (by simp; omega) (by omega) u nu
end
end K50
set_option maxRecDepth 100000
set_option maxHeartbeats 4000000
/-! What is known, drawn; the letter that is due. -/
namespace K50
open PySem PySem.Spec PyProof.Rows L2 KF KD
theorem merge_dk : ∀ (r s : Rw), (keys (s ++ r)).Nodup → mergeK (dk s) (dk r) = dk (s ++ r)
  | [], s, _ => by rw [List.append_nil]; rfl
  | e :: r, s, h => by
    have hn : look s e.1 = none := by
      cases q : look s e.1 with
      | none => rfl
      | some w =>
        exfalso
        unfold keys at h
        rw [List.map_append, List.nodup_append] at h
        exact h.2.2 e.1 (look_key q) e.1 (by simp) rfl
    show mergeK (putK (dk s) (.inl e.1) (.int e.2)) (dk r) = _
    rw [dk_put, put_new hn, merge_dk r (s ++ [(e.1, e.2)]) (by rw [List.append_assoc]; exact h), List.append_assoc]
    rfl
def epy (e : Int × Int) : PyData := .tuple [.int e.1, .int e.2]
theorem lay_row : ∀ r : Rw, PyData.canLayAll0 (r.map epy) = true
  | [] => by simp [PyData.canLayAll0]
  | e :: r => by
    simp only [List.map_cons, PyData.canLayAll0, Bool.and_eq_true]
    exact ⟨by simp [epy, PyData.canLay0, PyData.canLayAll0], lay_row r⟩
theorem dpa_row {K : PySem.W.Frag} {H : Hp} : ∀ {ps : List Addr} {r : Rw}, Paired (fun p (e : Int × Int) => SqT K H p [.int e.1, .int e.2]) ps r → DpAll K H (ps.map V.ref) (r.map epy)
  | [], [], .nil => .nil
  | _ :: _, _ :: _, .cons a t => .cons (.tup a (.cons (.int _) (.cons (.int _) .nil))) (dpa_row t)
theorem at_last {xs : List V} {x : V} : atI (xs ++ [x]) (-1) = some x := by
  unfold atI ixN
  rw [if_neg (by decide), if_pos (by rw [List.length_append]; simp; omega)]
  have : ((-1 : Int) + ((xs ++ [x]).length : Nat)).toNat = xs.length := by
    rw [List.length_append]
    simp
    omega
  simp only [Option.bind_some, this]
  simp
theorem paired_last {α β : Type} {F : α → β → Prop} {l : List α} {m : List β} {e : β} (h : Paired F l (m ++ [e])) : ∃ l' x, l = l' ++ [x] ∧ F x e := by
  have hl := Paired.length h
  rw [List.length_append] at hl
  have hlt : m.length < l.length := by simp at hl; omega
  have e1 : l = l.take m.length ++ [l[m.length]] := by
    have e2 := List.take_append_drop m.length l
    have e3 : l.drop m.length = [l[m.length]] := by
      rw [List.drop_eq_getElem_cons hlt]
      congr 1
      apply List.drop_eq_nil_of_le
      simp at hl
      omega
    rw [e3] at e2
    exact e2.symm
  obtain ⟨y, hy, hf⟩ := paired_at h (List.getElem?_eq_getElem hlt)
  rw [List.getElem?_append_right (Nat.le_refl _), Nat.sub_self] at hy
  cases hy
  exact ⟨_, _, e1, hf⟩
theorem nil_or_last {α : Type} (l : List α) : l = [] ∨ ∃ m e, l = m ++ [e] := by
  cases h : l.reverse with
  | nil => exact .inl (List.reverse_eq_nil_iff.mp h)
  | cons e m =>
    right
    refine ⟨m.reverse, e, ?_⟩
    have := congrArg List.reverse h
    rw [List.reverse_reverse] at this
    simpa using this
theorem least_expr {K : PySem.W.Frag} {i : Nat} {σ : L2.St} {H : Hp} {Q : VK} {R : Addr} {ps : List Addr} {r : Rw} {tk : Int} (hv : σ[i]? = some (some (.ref R))) (hR : H R = some (.lst (ps.map V.ref))) (hpr : Paired (fun q (e : Int × Int) => SqT K H q [.int e.1, .int e.2]) ps r) (hasc : (keys r).Pairwise (· < ·))
    (hrg : ∀ e ∈ r, 0 ≤ e.1 ∧ e.1 < tk) (ht : tk ≤ 320) (k : ∀ L0 H', 0 ≤ L0 → L0 ≤ 320 → (∀ e ∈ r, e.1 < L0) → Same H H' → Q (.int L0) H') :
    (tIf (tTest (tOp (rNeNil K false) (tVar i) (tLst tNil))) (tOp (rI0 fun i j => V.int (i + j)) (tOp (rIxT K) (tOp (rIxL K) (tVar i) (tUn (rU fun i => V.int (-i)) (tC (V.int 1)))) (tC (V.int 0))) (tC (V.int 1))) (tC (V.int 0))) σ H Q := by
  refine ⟨_, hv, (show 0 ≤ sizeLine by decide), fun e ne => ?_⟩
  have s1 := new_same (o := .lst []) ne
  have hR1 := s1 _ _ hR
  refine ⟨r.map epy, .lst (SqL.of hR1) (dpa_row (L2.Paired.mapP hpr fun _ _ w => (same_tf s1).sq w)), .lst (SqL.of upd_same) .nil, lay_row r, _, rfl, ?_⟩
  rcases nil_or_last r with rfl | ⟨m, l, rfl⟩
  · refine ite2 (fun z => absurd z (by decide)) (fun _ => ?_)
    exact k 0 _ (by decide) (by decide) (fun e he => nomatch he) s1
  · obtain ⟨ps', q, rfl, hq⟩ := paired_last hpr
    rw [List.map_append] at hR1
    have hl := hrg l (List.mem_append_right _ (List.mem_singleton.mpr rfl))
    refine ite2 (fun _ => ?_) (fun z => absurd (by simp) z)
    refine ⟨_, hv, _, rfl, R, _, _, .ref q, rfl, rfl, SqL.of hR1, at_last, q, _, _, _, rfl, rfl, (same_tf s1).sq hq, atI_nat (j := 0) rfl, _, _, rfl, rfl, ?_⟩
    refine k (l.1 + 1) _ (by omega) (by omega) (fun e he => ?_) s1
    rcases List.mem_append.mp he with he | he
    · unfold keys at hasc
      rw [List.map_append, List.pairwise_append] at hasc
      have := hasc.2.2 e.1 (List.mem_map.mpr ⟨e, he, rfl⟩) l.1 (by simp)
      omega
    · rw [List.mem_singleton.mp he]
      omega
section
variable {P : Program} {w : World} {K : PySem.W.Frag} {mg : Str → Option Value} {base : Heap}
def spLl (K : PySem.W.Frag) : Sp := fun vs H Q _ => ∃ (house first : Int) (D g : Addr) (k : Kn) (hs : List Int), vs = [.int house, .ref D, ov k.ends, .int first, .ref g] ∧ H D = some (.dK (dk k.row)) ∧ SqT K H g (hs.map V.int) ∧ 0 ≤ first ∧ first ≤ 5000 ∧ ∀ u H', Same H H' → LeH K H' u (theL k house first hs) → Q u H'
theorem scLl : FnScope ["house", "table", "ends", "first", "heard", "row", "tick"] ["house", "table", "ends", "first", "heard"] (defScope s_law_letter) := ⟨rfl, rfl, rfl, by decide +kernel, rfl, by decide +kernel, by decide +kernel⟩
theorem ok_law_letter (T : Txt K w mg) : FnOk P w K mg base CX0 1 (He.fAd K ("_law_letter", none)) (fdAt K (He.fAd K ("_law_letter", none))) ["house", "table", "ends", "first", "heard"] (spLl K) := by
  refine T.F_law_letter.ok scLl (fun vs H Q E h => ?_) (fun cdv A outer s H vs Q E hr h => ?_)
  · obtain ⟨house, first, D, g, k, hs, rfl, _⟩ := h
    rfl
  · obtain ⟨house, first, D, g, k, hs, rfl, hD, sg, hf0, hf1, kk⟩ := h
    have hu := Nat.lt_of_le_of_lt (Nat.add_le_add_left (by decide : 1 ≤ 64) _) hr.units
    refine ⟨_, PSs.nox (pss_cons (ps_set (i := 5) scLl.nd rfl (Or.inl rfl) (pe_lst pa_nil))
      (pss_cons (ps_for PassesOwn.never rfl (pi_range2 (by rfl) T.n_range (pa_cons (pv 3) (pa_cons (pe_op op_add (pv 3) pe_int) pa_nil))) (pg_name (i := 6) scLl.nd rfl (Or.inl rfl)) (pss_cons (ps_if (pt_cmp (pc_dnotin hu (pv 6) (pv 1))) (pss_one ps_break) pss_nil)
      (pss_one (ps_expr (pe_bm PySem.F.plainAttrs_list PySem.F.slot_list_append PySem.F.type_list_append mt_append (pv 5) (pa_cons (pe_dget hu (pv 1) (pv 6) (fun _ _ => rfl)) pa_nil))))))
      (pss_one (ps_ret (pe_tup (pa_cons (pv 0) (pa_cons (pv 3) (pa_cons (pe_callTy call_tuple_of (by rfl) T.n_tuple PyProof.Rows.Boot.«tuple» (pa_cons (pv 5) pa_nil)) (pa_cons (pe_ifExp (pt_cmpR op_eq (pv 2) (pe_op op_add (pv 3) (pe_callB (r := Evl.rLenS K) call_len_seq (by rfl) T.n_len PyProof.Rows.Boot.«len» (pa_cons (pv 5) pa_nil))) (nomark _)) (pv 2) pe_non) (pa_cons (pv 4) pa_nil)))))))))), ?_⟩
    refine ⟨(show 0 ≤ sizeLine by decide), fun L nL => ?_⟩
    have sL := new_same (o := .lst []) nL
    have nDL : D ≠ L := fun z => by rw [← z, hD] at nL; cases nL
    dsimp only
    refine seq_cut (fun σ H' => ∃ v6, σ = [some (.int house), some (.ref D), some (ov k.ends), some (.int first), some (.ref g), some (.ref L), v6] ∧ H' L = some (.lst ((rrun k.row first 32).map V.int)) ∧ Same H H') (fun σ H' h => ?_) (fun R hR => ?_)
    · obtain ⟨v6, rfl, hL, sm⟩ := h
      refine ⟨_, rfl, _, rfl, _, rfl, L, _, rfl, .inl ⟨SqL.of hL, fun q nq => ?_⟩⟩
      have s1 := new_same (o := .tup ((rrun k.row first 32).map V.int)) nq
      refine ⟨_, rfl, _, rfl, _, rfl, L, _, rfl, .inl (SqL.of (s1 _ _ hL)), _, _, rfl, rfl, scal_ov _ _, _, rfl, ?_⟩
      rw [dec_ov, List.length_map]
      have fin : ∀ e : Option Int, e = (theL k house first hs).ends → ∀ u, (upd H' q (.tup ((rrun k.row first 32).map V.int))) u = none → Q (.ref u) (upd (upd H' q (.tup ((rrun k.row first 32).map V.int))) u (.tup [.int house, .int first, .ref q, ov e, .ref g])) := fun e he u nu => by
        have s2 := new_same (o := .tup [.int house, .int first, .ref q, ov e, .ref g]) nu
        refine kk _ _ ((sm.trans s1).trans s2) ⟨u, q, g, rfl, ?_, (same_tf s2).sq (SqT.of upd_same), (same_tf ((sm.trans s1).trans s2)).sq sg⟩
        rw [← he]
        exact SqT.of upd_same
      refine ite2 (fun z => ?_) (fun z => ?_)
      · have hz := of_decide_eq_true z
        exact ⟨_, rfl, _, rfl, (show 5 ≤ sizeLine by decide), fun u nu => fin k.ends (by unfold theL; rw [if_pos hz]) u nu⟩
      · have hz : ¬ k.ends = some (first + ((rrun k.row first 32).length : Nat)) := fun w => z (decide_eq_true w)
        exact ⟨_, rfl, (show 5 ≤ sizeLine by decide), fun u nu => fin none (by unfold theL; rw [if_neg hz]) u nu⟩
    · refine ⟨_, rfl, _, rfl, _, _, rfl, rfl, first, first + 32, rfl, by omega, ?_⟩
      have hn : (first + 32 - first).toNat = 32 := by omega
      rw [hn]
      refine for_range (lo := first) (n := 32) (fun i σ H' => ∃ (v6 : Option V) (ns : List Int), σ = [some (.int house), some (.ref D), some (ov k.ends), some (.int first), some (.ref g), some (.ref L), v6] ∧ H' L = some (.lst (ns.map V.int)) ∧ ns.length = i ∧ Sof k.row first ns ∧ Same H H') ⟨_, [], rfl, upd_same, rfl, sof_0 _ _, sL⟩ (fun i σ H' hi h => ?_) (fun σ H' h => ?_)
      · obtain ⟨v6, ns, rfl, hL, hnl, so, sm⟩ := h
        have hD' := sm _ _ hD
        refine ⟨_, rfl, _, rfl, D, _, rfl, look_dk (.inl hD'), _, rfl, ?_⟩
        rw [← hnl]
        cases e : look k.row (first + (ns.length : Nat)) with
        | none =>
          refine iteT (hR _ _ ⟨_, rfl, ?_, sm⟩)
          rw [← sof_end so (.inl e)]
          exact hL
        | some v =>
          refine iteF ?_
          refine ⟨_, rfl, .inl ⟨rfl, _, SqL.of hL⟩, _, rfl, _, rfl, D, .int v, rfl, ?_, L, _, _, rfl, rfl, hL, by rw [List.length_map]; exact Nat.lt_of_lt_of_le (show ns.length < 100 by omega) (by decide), ?_⟩
          · have := look_dk (t := first + (ns.length : Nat)) (.inl hD')
            rw [e] at this
            exact this
          · refine ⟨_, ns ++ [v], rfl, ?_, by rw [List.length_append]; rfl, sof_next so (by omega) e, fun b o z => by rw [upd_ne (ne_of_none z nL)]; exact sm _ _ z⟩
            rw [upd_same, List.map_append]
            rfl
      · obtain ⟨v6, ns, rfl, hL, hnl, so, sm⟩ := h
        refine hR _ _ ⟨_, rfl, ?_, sm⟩
        rw [← sof_end so (.inr hnl)]
        exact hL
def spKno (K : PySem.W.Frag) : Sp := fun vs H Q _ => ∃ (d : Addr) (n : Nat), vs = [.ref d] ∧ Dk H d (n + 400) ∧ ∀ v k H', KnH K H' v k → k.ok → Frm d H H' → Dk H' d n → Q v H'
theorem scKo : FnScope ["deck", "many", "row", "tick", "gaps", "turn", "least"] ["deck"] (defScope s_law_known) := ⟨rfl, rfl, rfl, by decide +kernel, rfl, by decide +kernel, by decide +kernel⟩
theorem ok_law_known (T : Txt K w mg) : FnOk P w K mg base CX0 2 (He.fAd K ("_law_known", none)) (fdAt K (He.fAd K ("_law_known", none))) ["deck"] (spKno K) := by
  refine T.F_law_known.ok scKo (fun vs H Q E h => ?_) (fun cdv A outer s H vs Q E hr h => ?_)
  · obtain ⟨d, n, rfl, _⟩ := h
    rfl
  · obtain ⟨d, n, rfl, hD, kk⟩ := h
    refine ⟨_, PSs.nox (pss_cons (ps_set (i := 1) scKo.nd rfl (Or.inl rfl) (pe_ix (r := rIxL K) ix_list (pe_lst (pa_cons (pe_call (ok_law_draw T) (hr.mono (by decide)) (by rfl) T.g_law_draw (T.F_law_draw).kp T.b_law_draw .nil pass0 (pa_cons (pv 0) (pa_cons pe_int pa_nil))) (pa_cons (pe_op op_add pe_int (pe_call (ok_law_draw T) (hr.mono (by decide)) (by rfl) T.g_law_draw (T.F_law_draw).kp T.b_law_draw .nil pass0 (pa_cons (pv 0) (pa_cons pe_int pa_nil)))) (pa_cons (pe_call (ok_law_draw T) (hr.mono (by decide)) (by rfl) T.g_law_draw (T.F_law_draw).kp T.b_law_draw .nil pass0 (pa_cons (pv 0) (pa_cons pe_int pa_nil))) pa_nil)))) (pe_call (ok_law_draw T) (hr.mono (by decide)) (by rfl) T.g_law_draw (T.F_law_draw).kp T.b_law_draw .nil pass0 (pa_cons (pv 0) (pa_cons pe_int pa_nil))) (fun _ _ => rfl)))
      (pss_cons (ps_par3 (i := 2) (j := 3) (l := 4) (by rfl) scKo.nd rfl rfl rfl (by decide) (by decide) (by decide) rfl rfl rfl (pa_cons (pe_lst pa_nil) (pa_cons pe_int (pa_cons (pe_call (ok_law_draw T) (hr.mono (by decide)) (by rfl) T.g_law_draw (T.F_law_draw).kp T.b_law_draw .nil pass0 (pa_cons (pv 0) (pa_cons pe_int pa_nil))) pa_nil))) (by rfl))
      (pss_cons (ps_for PassesOwn.never rfl (pi_range1 (by rfl) T.n_range (pa_cons (pv 1) pa_nil)) (pg_name (i := 5) scKo.nd rfl (Or.inl rfl)) (pss_cons (ps_expr (pe_bm PySem.F.plainAttrs_list PySem.F.slot_list_append PySem.F.type_list_append mt_append (pv 2) (pa_cons (pe_tup (pa_cons (pv 3) (pa_cons (pe_call (ok_law_draw T) (hr.mono (by decide)) (by rfl) T.g_law_draw (T.F_law_draw).kp T.b_law_draw .nil pass0 (pa_cons (pv 0) (pa_cons pe_int pa_nil))) pa_nil))) pa_nil)))
      (pss_one (ps_set (i := 3) scKo.nd rfl (Or.inl rfl) (pe_op op_add (pe_op op_add (pv 3) pe_int) (pe_op op_mulW (pv 4) (pe_ix (r := rIxL K) ix_list (pe_lst (pa_cons pe_int (pa_cons pe_int (pa_cons pe_int (pa_cons pe_int (pa_cons pe_int (pa_cons pe_int (pa_cons pe_int (pa_cons pe_int (pa_cons pe_int pa_nil)))))))))) (pe_call (ok_law_draw T) (hr.mono (by decide)) (by rfl) T.g_law_draw (T.F_law_draw).kp T.b_law_draw .nil pass0 (pa_cons (pv 0) (pa_cons pe_int pa_nil))) (fun _ _ => rfl))))))))
      (pss_cons (ps_set (i := 6) scKo.nd rfl (Or.inl rfl) (pe_ifExp (pt_cmpR (r := rNeNil K false) (op_neNil hr.units) (pv 2) (pe_lst pa_nil) (nomark _)) (pe_op op_add (pe_ix (r := rIxT K) ix_tup (pe_ix (r := rIxL K) ix_list (pv 2) (pe_un un_neg pe_int) (fun _ _ => rfl)) pe_int (fun _ _ => rfl)) pe_int) pe_int))
      (pss_one (ps_ret (pe_tup (pa_cons (pe_callTy call_tupleFz (by rfl) T.n_tuple PyProof.Rows.Boot.«tuple» (pa_cons (pv 2) pa_nil)) (pa_cons (pe_ix (r := rIxL K) ix_list (pe_lst (pa_cons pe_non (pa_cons (pv 6) (pa_cons (pv 6) (pa_cons (pe_op op_add (pv 6) (pe_call (ok_law_draw T) (hr.mono (by decide)) (by rfl) T.g_law_draw (T.F_law_draw).kp T.b_law_draw .nil pass0 (pa_cons (pv 0) (pa_cons pe_int pa_nil)))) pa_nil))))) (pe_call (ok_law_draw T) (hr.mono (by decide)) (by rfl) T.g_law_draw (T.F_law_draw).kp T.b_law_draw .nil pass0 (pa_cons (pv 0) (pa_cons pe_int pa_nil))) (fun _ _ => rfl)) pa_nil))))))))), ?_⟩
    refine ⟨_, rfl, d, 8, n + 399, rfl, by decide, by decide, hD, fun x1 H1 a1 a2 f1 D1 => ?_⟩
    refine ⟨_, rfl, d, 12, n + 398, rfl, by decide, by decide, D1, fun x2 H2 a3 a4 f2 D2 => ⟨_, _, rfl, rfl, ?_⟩⟩
    refine ⟨_, rfl, d, 75, n + 397, rfl, by decide, by decide, D2, fun x3 H3 a5 a6 f3 D3 => ?_⟩
    refine ⟨(show 3 ≤ sizeLine by decide), fun p np => ⟨_, rfl, d, 3, n + 396, rfl, by decide, by decide, D3.same (new_same np), fun x4 H4 a7 a8 f4 D4 => ?_⟩⟩
    have hpd := D3.ne np
    obtain ⟨many, hm, hat⟩ := at_mem V.int [x1, 28 + x2, x3] a7 (by simpa using a8)
    have hm0 : 0 ≤ many ∧ many ≤ 74 := by
      simp at hm
      omega
    refine ⟨p, _, _, _, rfl, rfl, SqL.of (f4 p _ hpd upd_same), hat, ?_⟩
    have f04 := ((f1.trans f2).trans f3).trans ((Frm.of_new np).trans f4)
    refine ⟨(show 0 ≤ sizeLine by decide), fun R nR => ⟨_, rfl, d, 2, n + 395, rfl, by decide, by decide, D4.same (new_same nR), fun gp H5 g0 g1 f5 D5 => ⟨_, _, _, rfl, ?_⟩⟩⟩
    have hRd := D4.ne nR
    have f05 := (f04.trans (Frm.of_new nR)).trans f5
    have hR5 : H5 R = some (.lst []) := f5 R _ hRd upd_same
    have nRH : ∀ b o, b ≠ d → H b = some o → b ≠ R := fun b o hb z e => by
      rw [← e, f04 b o hb z] at nR
      cases nR
    refine ⟨_, rfl, many, rfl, by omega, by omega, ?_⟩
    refine for_range (lo := 0) (n := many.toNat) (fun i σ H' => ∃ (v5 v6 : Option V) (tk : Int) (ps : List Addr) (rw_ : Rw), σ = [some (.ref d), some (.int many), some (.ref R), some (.int tk), some (.int gp), v5, v6] ∧ H' R = some (.lst (ps.map V.ref)) ∧ Paired (fun q (e : Int × Int) => SqT K H' q [.int e.1, .int e.2]) ps rw_ ∧ (keys rw_).Pairwise (· < ·) ∧ (∀ e ∈ rw_, 0 ≤ e.1 ∧ e.1 < tk ∧ 0 ≤ e.2 ∧ e.2 ≤ 63) ∧ 0 ≤ tk ∧ tk ≤ 4 * (i : Int) ∧ rw_.length = i ∧ Frm d H H' ∧ Dk H' d (n + 395 - 2 * i))
      ⟨_, _, 0, [], [], rfl, hR5, .nil, .nil, (fun e he => nomatch he), by decide, by omega, rfl, f05, D5⟩ (fun i σ H' hi h => ?_) (fun σ H4 h => ?_)
    · obtain ⟨v5, v6, tk, ps, rw_, rfl, hR, hpr, hasc, hrg, t0, t1, hlen, fr, DD⟩ := h
      have hi74 : i < 74 := by omega
      have hpl := Paired.length hpr
      refine ⟨_, rfl, .inl ⟨rfl, _, SqL.of hR⟩, _, rfl, _, rfl, d, 64, n + 394 - 2 * i, rfl, by decide, by decide, DD.le (by omega), fun z H5 z0 z1 f5 D5 => ⟨(show 2 ≤ sizeLine by decide), fun q nq => ?_⟩⟩
      have s6 := new_same (o := .tup [.int tk, .int z]) nq
      have hR6 := s6 _ _ (f5 R _ hRd hR)
      refine ⟨R, _, _, rfl, rfl, hR6, by rw [List.length_map]; exact Nat.lt_of_lt_of_le (show ps.length < 100 by omega) (by decide), ?_⟩
      have tR := TF.of_lst (o := .lst (ps.map V.ref ++ [V.ref q])) hR6
      obtain ⟨xs5, hx5⟩ := DD.lst
      have t5 := f5.tf hx5
      have hpr6 := paired_app (L2.Paired.mapP hpr fun _ _ w => tR.sq ((same_tf s6).sq (t5.sq w))) (.cons (tR.sq (SqT.of upd_same)) .nil : Paired (fun q (e : Int × Int) => SqT K _ q [.int e.1, .int e.2]) [q] [(tk, z)])
      have D6 : Dk (upd (upd H5 q (.tup [.int tk, .int z])) R (.lst (ps.map V.ref ++ [V.ref q]))) d (n + 394 - 2 * i) := (D5.same s6).upd hRd
      refine ⟨_, rfl, _, _, rfl, rfl, _, rfl, (show 9 ≤ sizeLine by decide), fun p2 np2 => ⟨_, rfl, d, 9, n + 393 - 2 * i, rfl, by decide, by decide, (D6.same (new_same np2)).le (by omega), fun u H8 u0 u1 f8 D8 => ?_⟩⟩
      obtain ⟨st, hst, hat2⟩ := at_mem V.int [0, 0, 0, 0, 0, 0, 0, 1, 3] u0 (by simpa using u1)
      have hst2 : 0 ≤ st ∧ st ≤ 3 := by
        simp at hst
        omega
      have hp2d := D6.ne np2
      have hcm : CMulW gp st := wide_mul (a := 20) (b := 20) (small_ab g0 (by rw [pow20]; omega)) (small_ab (by omega) (by rw [pow20]; omega)) (by decide) (by decide) (by decide)
      have hgs : 0 ≤ gp * st ∧ gp * st ≤ 3 := by
        have : gp = 0 ∨ gp = 1 := by omega
        rcases this with rfl | rfl
        · omega
        · omega
      refine ⟨p2, _, _, _, rfl, rfl, SqL.of (f8 p2 _ hp2d upd_same), hat2, _, _, rfl, rfl, hcm, _, _, rfl, rfl, ?_⟩
      have s7 := new_same (o := .lst [.int 0, .int 0, .int 0, .int 0, .int 0, .int 0, .int 0, .int 1, .int 3]) np2
      obtain ⟨xs8, hx8⟩ := (D6.same s7).lst
      have t8 := f8.tf hx8
      refine ⟨_, _, tk + 1 + gp * st, ps ++ [q], rw_ ++ [(tk, z)], rfl, ?_, L2.Paired.mapP hpr6 fun _ _ w => t8.sq ((same_tf s7).sq w), ?_, fun e he => ?_, by omega, by omega, by rw [List.length_append, hlen]; rfl, ?_, D8.le (by omega)⟩
      · rw [List.map_append]
        exact f8 R _ hRd (s7 _ _ upd_same)
      · unfold keys
        rw [List.map_append, List.pairwise_append]
        refine ⟨hasc, by simp, fun a ha b hb => ?_⟩
        obtain ⟨e, he, rfl⟩ := List.mem_map.mp ha
        simp at hb
        rw [hb]
        exact (hrg e he).2.1
      · rcases List.mem_append.mp he with he | he
        · have := hrg e he
          omega
        · rw [List.mem_singleton.mp he]
          exact ⟨t0, by show tk < tk + 1 + gp * st; omega, z0, by show z ≤ 63; omega⟩
      · exact fun b o hb w => f8 b o hb (s7 _ _ (by rw [upd_ne (nRH b o hb w)]; exact s6 _ _ (f5 b o hb (fr b o hb w))))
    · obtain ⟨v5, v6, tk, ps, rw_, rfl, hR, hpr, hasc, hrg, t0, t1, hlen, fr, DD⟩ := h
      have hpl := Paired.length hpr
      refine least_expr (tk := tk) rfl hR hpr hasc (fun e he => ⟨(hrg e he).1, (hrg e he).2.1⟩) (by omega) (fun L0 H5 l0 l1 hlt s5 => ?_)
      have D5 := DD.same s5
      have hR5 := s5 _ _ hR
      refine ⟨_, rfl, R, _, rfl, SqL.of hR5, fun F ob nF hob => ?_⟩
      have sF := new_same (o := .frz ob (.tup (ps.map V.ref))) nF
      have hFd := D5.ne nF
      refine ⟨_, rfl, _, rfl, _, rfl, _, rfl, d, 9, n + 50, rfl, by decide, by decide, (D5.same sF).le (by omega), fun z H7 z0 z1 f7 D7 => ⟨_, _, rfl, rfl, (show 4 ≤ sizeLine by decide), fun p2 np2 => ⟨_, rfl, d, 4, n + 49, rfl, by decide, by decide, D7.same (new_same np2), fun u H9 u0 u1 f9 D9 => ?_⟩⟩⟩
      obtain ⟨en, hen, hat2⟩ := at_mem ov [none, some L0, some L0, some (L0 + z)] u0 (by simpa using u1)
      have hp2d := D7.ne np2
      have s8 := new_same (o := .lst [.non, .int L0, .int L0, .int (L0 + z)]) np2
      refine ⟨p2, _, _, _, rfl, rfl, SqL.of (f9 p2 _ hp2d upd_same), hat2, (show 2 ≤ sizeLine by decide), fun q nq => ?_⟩
      have sq' := new_same (o := .tup [.ref F, ov en]) nq
      have f59 : Frm d H5 H9 := ((Frm.of_same sF).trans f7).trans ((Frm.of_same s8).trans f9)
      have hF9 := f9 F _ hFd (s8 _ _ (f7 F _ hFd upd_same))
      obtain ⟨xs5, hx5⟩ := D5.lst
      have t59 : TF H5 H9 := f59.tf hx5
      have hR' : ∀ e ∈ rw_, 0 ≤ e.1 ∧ e.1 < 1000 ∧ 0 ≤ e.2 ∧ e.2 ≤ 63 := fun e he => by
        have := hrg e he
        have := hlt e he
        omega
      refine kk (.ref q) ⟨rw_, en⟩ _ ⟨q, F, ps, rfl, SqT.of upd_same, ⟨ob, hob, sq' _ _ hF9⟩, L2.Paired.mapP hpr fun _ _ w => (same_tf sq').sq (t59.sq ((same_tf s5).sq w))⟩ ⟨hasc, hR', fun g hg => ?_⟩ (((fr.trans (Frm.of_same s5)).trans f59).trans (Frm.of_same sq')) ((D9.same sq').le (by omega))
      have hg2 : en = some g := hg
      rw [hg2] at hen
      simp at hen
      refine ⟨by omega, by omega, fun e he => ?_⟩
      have := hlt e he
      omega
def spSr (K : PySem.W.Frag) : Sp := fun vs H Q _ => ∃ (v : V) (l : Le), vs = [v] ∧ LeH K H v l ∧ l.is = true ∧ l.row.length ≤ 1000 ∧ l.heard.length ≤ 1000 ∧ ∀ H', Same H H' → Q (.bl true) H'
theorem scSr : FnScope ["told"] ["told"] (defScope s_law_size_right) := ⟨rfl, rfl, rfl, by decide +kernel, rfl, by decide +kernel, by decide +kernel⟩
theorem ok_law_size_right (T : Txt K w mg) : FnOk P w K mg base CX0 7 (He.fAd K ("_law_size_right", none)) (fdAt K (He.fAd K ("_law_size_right", none))) ["told"] (spSr K) := by
  refine T.F_law_size_right.ok scSr (fun vs H Q E h => ?_) (fun cdv A outer s H vs Q E hr h => ?_)
  · obtain ⟨v, l, rfl, _⟩ := h
    rfl
  · obtain ⟨v, l, rfl, ⟨t, r, g, rfl, sq, sr, sg⟩, his, h1, h2, kk⟩ := h
    refine ⟨_, PSs.nox (pss_one (ps_ret (pe_call (ok_law_same T 2) (hr.mono (by omega)) (by rfl) T.g_law_same (T.F_law_same).kp T.b_law_same .nil pass0 (pa_cons (pe_call (ok_size_in_bits T) (hr.mono (by decide)) (by rfl) T.g_size_in_bits (T.F_size_in_bits).kp T.b_size_in_bits .nil pass0 (pa_cons (pv 0) pa_nil)) (pa_cons (pe_op op_add (pe_op op_add (pe_op op_add (pe_op op_add (pe_op op_add pe_int pe_int) (pe_op op_mulW pe_int (pe_callB (r := Evl.rLenS K) call_len_seq (by rfl) T.n_len PyProof.Rows.Boot.«len» (pa_cons (pe_ix (r := rIxT K) ix_tup (pv 0) pe_int (fun _ _ => rfl)) pa_nil)))) pe_int) (pe_op op_mulW pe_int (pe_callB (r := Evl.rLenS K) call_len_seq (by rfl) T.n_len PyProof.Rows.Boot.«len» (pa_cons (pe_ix (r := rIxT K) ix_tup (pv 0) pe_int (fun _ _ => rfl)) pa_nil)))) pe_int) pa_nil))))), ?_⟩
    refine ⟨_, rfl, .ref t, l, rfl, ⟨t, r, g, rfl, sq, sr, sg⟩, his, h1, h2, fun H1 s1 => ?_⟩
    have t1 := same_tf s1
    have m1 : CMulW 6 (((l.row.map V.int).length : Nat) : Int) := wide_mul (a := 40) (b := 40) (by decide) (small_ab (by omega) (by rw [pow40, List.length_map]; omega)) (by decide) (by decide) (by decide)
    have m2 : CMulW 16 (((l.heard.map V.int).length : Nat) : Int) := wide_mul (a := 40) (b := 40) (by decide) (small_ab (by omega) (by rw [pow40, List.length_map]; omega)) (by decide) (by decide) (by decide)
    refine ⟨_, _, rfl, rfl, _, rfl, t, _, _, _, rfl, rfl, t1.sq sq, atI_nat (j := 2) rfl, r, _, rfl, .inr (t1.sq sr), _, _, rfl, rfl, m1, _, _, rfl, rfl, _, _, rfl, rfl, _, rfl, t, _, _, _, rfl, rfl, t1.sq sq, atI_nat (j := 4) rfl, g, _, rfl, .inr (t1.sq sg), _, _, rfl, rfl, m2, _, _, rfl, rfl, _, _, rfl, rfl, ?_⟩
    refine ⟨_, _, .int (sizeL l), rfl, .int _, ?_, trivial, fun H2 s2 => kk H2 (s1.trans s2)⟩
    rw [List.length_map, List.length_map]
    have e : 8 + 16 + 6 * (l.row.length : Int) + 16 + 16 * (l.heard.length : Int) + 6 = sizeL l := by
      unfold sizeL
      omega
    show Dp K H1 (.int (8 + 16 + 6 * (l.row.length : Int) + 16 + 16 * (l.heard.length : Int) + 6)) (.int (sizeL l))
    rw [e]
    exact .int _
end
end K50
set_option maxRecDepth 100000
set_option maxHeartbeats 4000000
/-! Letters of what is known, asked. -/
namespace K50
open PySem PySem.Spec PyProof.Rows L2 KF KD
def oint : Option Int → PyData
  | none => .none
  | some n => .int n
def lpy (l : Le) : PyData := .tuple [.int l.house, .int l.first, .tuple (l.row.map .int), oint l.ends, .tuple (l.heard.map .int)]
theorem dp_le {K : PySem.W.Frag} {H : Hp} {v : V} {l : Le} (h : LeH K H v l) : Dp K H v (lpy l) := by
  obtain ⟨t, r, g, rfl, sq, sr, sg⟩ := h
  refine .tup sq (.cons (.int _) (.cons (.int _) (.cons (.tup sr (ints_dp _)) (.cons ?_ (.cons (.tup sg (ints_dp _)) .nil)))))
  cases l.ends with
  | none => exact .non
  | some e => exact .int e
theorem nl_ints : ∀ r : List Int, NLs (r.map .int)
  | [] => trivial
  | _ :: r => ⟨trivial, nl_ints r⟩
theorem nl_oint (e : Option Int) : NL (oint e) := by cases e <;> trivial
theorem al_oint (e : Option Int) : AlOk 1 (oint e) := by cases e <;> trivial
theorem al_ints {r : List Int} (h : r.length ≤ 1100) : AlOk 1 (.tuple (r.map .int)) := ⟨by rw [List.length_map]; exact h, nl_ints r, fun e he => by
  obtain ⟨i, _, rfl⟩ := List.mem_map.mp he
  trivial⟩
theorem al_le {l : Le} (h1 : l.row.length ≤ 1100) (h2 : l.heard.length ≤ 1100) : AlOk 2 (lpy l) := by
  refine ⟨(show 5 ≤ 1100 by decide), ⟨trivial, trivial, nl_ints _, nl_oint _, nl_ints _, trivial⟩, fun e he => ?_⟩
  simp only [List.mem_cons, List.not_mem_nil, or_false] at he
  rcases he with rfl | rfl | rfl | rfl | rfl
  · trivial
  · trivial
  · exact al_ints h1
  · exact al_oint _
  · exact al_ints h2
theorem theL_is {k : Kn} (ok : k.ok) {house first : Int} {hs : List Int} (h0 : 0 ≤ house) (h1 : 0 ≤ first) (hp : ∀ x ∈ hs, 0 ≤ x) : (theL k house first hs).is = true := by
  have l1 := rr_len k.row first 32
  have l2 : (rrun k.row first 32).all prOk = true := List.all_eq_true.mpr fun p hp => by
    obtain ⟨t, ht⟩ := rr_mem hp
    have := ok.rng _ ht
    unfold prOk
    rw [decide_eq_true (show 0 ≤ p from this.2.2.1), decide_eq_true (show p ≤ 63 from this.2.2.2)]
    rfl
  have l3 : endOk (theL k house first hs).ends (first + ((rrun k.row first 32).length : Nat)) = true := by
    unfold theL
    by_cases e : k.ends = some (first + ((rrun k.row first 32).length : Nat))
    · simp only [if_pos e]
      rw [e]
      exact decide_eq_true (Int.le_refl _)
    · simp only [if_neg e]
      rfl
  show (decide (0 ≤ house) && (decide (0 ≤ first) && (decide ((rrun k.row first 32).length ≤ 32) && ((rrun k.row first 32).all prOk && (endOk (theL k house first hs).ends (first + ((rrun k.row first 32).length : Nat)) && hs.all fun t => decide (0 ≤ t)))))) = true
  rw [decide_eq_true h0, decide_eq_true h1, decide_eq_true l1, l2, l3, List.all_eq_true.mpr fun x hx => decide_eq_true (hp x hx)]
  rfl
theorem KnH.frm {K : PySem.W.Frag} {H H' : Hp} {v : V} {k : Kn} {d : Addr} {xs : List V} (f : Frm d H H') (hd : H d = some (.lst xs)) (h : KnH K H v k) : KnH K H' v k := by
  obtain ⟨t, r, ps, e, sq, ⟨ob, od, fz⟩, prs⟩ := h
  have tf := f.tf hd
  exact ⟨t, r, ps, e, tf.sq sq, ⟨ob, od, f r _ (fun z => by rw [z, hd] at fz; cases fz) fz⟩, L2.Paired.mapP prs fun _ _ z => tf.sq z⟩
theorem pairs_dk {K : PySem.W.Frag} {H : Hp} {l : List Addr} {m : Rw} (h : Paired (fun p (e : Int × Int) => SqT K H p [.int e.1, .int e.2]) l m) : Paired (fun p (kv : L2.Key × V) => SqT K H p [kV kv.1, kv.2]) l (dk m) := by
  induction h with
  | nil => exact .nil
  | cons a _ ih => exact .cons a ih
theorem least5 {i : Nat} {e : Option Int} {σ : L2.St} {H : Hp} {Q : VK} (hv : σ[i]? = some (some (ov e))) (q : Q (.int (e.getD 5)) H) :
    (tIf (tTest (tOp (fun x y H Q => y = V.non ∧ Q (V.bl !decide (x = V.non)) H) (tVar i) (tC V.non))) (tVar i) (tC (V.int 5))) σ H Q := by
  cases e with
  | none => exact ⟨_, hv, rfl, _, rfl, iteF q⟩
  | some g => exact ⟨_, hv, rfl, _, rfl, iteT ⟨_, hv, q⟩⟩
section
variable {P : Program} {w : World} {K : PySem.W.Frag} {mg : Str → Option Value} {base : Heap}
def spOw : Sp := fun vs H Q _ => ∃ (d : Addr) (n : Nat), vs = [.ref d] ∧ Dk H d (n + 1000) ∧ ∀ H', Frm d H H' → Dk H' d n → Q (.bl true) H'
theorem scOw : FnScope ["deck", "known", "house", "heard", "table", "ends", "top", "least", "asked", "first", "due", "told", "tick"] ["deck"] (defScope s_law_own_right) := ⟨rfl, rfl, rfl, by decide +kernel, rfl, by decide +kernel, by decide +kernel⟩
theorem ok_law_own_right (T : Txt K w mg) : FnOk P w K mg base CX0 8 (He.fAd K ("_law_own_right", none)) (fdAt K (He.fAd K ("_law_own_right", none))) ["deck"] spOw := by
  have kb : KBinds K (fdAt K (He.fAd K ("letter", none))) ["house", "known", "first", "heard"] ["heard", "first", "known", "house"] KG.kR KG.kR := KG.kb_rev T.F_letter (by decide) fun _ _ _ _ _ _ ws hl => match ws, hl with | [_, _, _, _], _ => rfl
  refine T.F_law_own_right.ok scOw (fun vs H Q E h => ?_) (fun cdv A outer s H vs Q E hr h => ?_)
  · obtain ⟨d, n, rfl, _⟩ := h
    rfl
  · obtain ⟨d, n, rfl, hD, kk⟩ := h
    have hu := Nat.lt_of_le_of_lt (Nat.add_le_add_left (by decide : 1 ≤ 64) _) hr.units
    refine ⟨_, PSs.nox (pss_cons (ps_par3 (i := 1) (j := 2) (l := 3) (by rfl) scOw.nd rfl rfl rfl (by decide) (by decide) (by decide) rfl rfl rfl (pa_cons (pe_call (ok_law_known T) (hr.mono (by decide)) (by rfl) T.g_law_known (T.F_law_known).kp T.b_law_known .nil pass0 (pa_cons (pv 0) pa_nil)) (pa_cons (pe_call (ok_law_draw T) (hr.mono (by decide)) (by rfl) T.g_law_draw (T.F_law_draw).kp T.b_law_draw .nil pass0 (pa_cons (pv 0) (pa_cons pe_int pa_nil))) (pa_cons (pe_call (ok_law_heard T) (hr.mono (by decide)) (by rfl) T.g_law_heard (T.F_law_heard).kp T.b_law_heard .nil pass0 (pa_cons (pv 0) pa_nil)) pa_nil))) (by rfl))
      (pss_cons (ps_par (i := 4) (j := 5) (by rfl) scOw.nd rfl rfl (by decide) rfl rfl (pa_cons (pe_callTy (call_dictFz rfl) (by rfl) T.n_dict PyProof.Rows.Boot.«dict» (pa_cons (pe_ix (r := rIxT K) ix_tup (pv 1) pe_int (fun _ _ => rfl)) pa_nil)) (pa_cons (pe_ix (r := rIxT K) ix_tup (pv 1) pe_int (fun _ _ => rfl)) pa_nil)) (by rfl))
      (pss_cons (ps_set (i := 6) scOw.nd rfl (Or.inl rfl) (pe_op op_add (pe_callB (cr_max rfl) (by rfl) T.n_max PyProof.Rows.Boot.«max» (pa_cons (pe_op op_cat (pe_lst (pa_cons pe_int pa_nil)) (pe_lock (pe_lc (own := [("tick", 12)]) (g := gName 12) (tt := tYes) (by rfl) scOw.nd (pi_keys (pv 4)) (blkOk_by (own := [("tick", 12)]) (N := ["deck", "known", "house", "heard", "table", "ends", "top", "least", "asked", "first", "due", "told", "tick"]) (sc := defScope s_law_own_right) (by decide +kernel)) (fun _ _ _ _ _ => pg_name (i := 12) scOw.nd rfl (Or.inl rfl)) (fun _ _ _ _ _ => pts_nil) (fun _ _ _ _ _ => (pe_op op_add (pv 12) pe_int))))) pa_nil)) pe_int))
      (pss_cons (ps_set (i := 7) scOw.nd rfl (Or.inl rfl) (pe_ifExp (pt_cmpR op_notN (pv 5) pe_non (nomark _)) (pv 5) pe_int))
      (pss_cons (ps_set (i := 8) scOw.nd rfl (Or.inl rfl) (pe_lst (pa_cons pe_int (pa_cons pe_int (pa_cons (pe_op op_sub (pv 6) pe_int) (pa_cons (pe_op op_sub (pv 6) pe_int) (pa_cons (pe_callB (call_max2 rfl) (by rfl) T.n_max PyProof.Rows.Boot.«max» (pa_cons pe_int (pa_cons (pe_op op_sub (pv 6) pe_int) pa_nil))) (pa_cons (pe_callB (call_max2 rfl) (by rfl) T.n_max PyProof.Rows.Boot.«max» (pa_cons pe_int (pa_cons (pe_op op_sub (pv 6) pe_int) pa_nil))) (pa_cons (pv 7) (pa_cons (pe_callB (call_max2 rfl) (by rfl) T.n_max PyProof.Rows.Boot.«max» (pa_cons pe_int (pa_cons (pe_op op_sub (pv 7) pe_int) pa_nil))) (pa_cons (pe_op op_add (pv 7) pe_int) pa_nil)))))))))))
      (pss_cons (ps_for PassesOwn.never rfl (pi_list (pe_op op_cat (pv 8) (pe_lst (pa_cons (pe_call (ok_law_draw T) (hr.mono (by decide)) (by rfl) T.g_law_draw (T.F_law_draw).kp T.b_law_draw .nil pass0 (pa_cons (pv 0) (pa_cons (pv 6) pa_nil))) (pa_cons (pe_call (ok_law_draw T) (hr.mono (by decide)) (by rfl) T.g_law_draw (T.F_law_draw).kp T.b_law_draw .nil pass0 (pa_cons (pv 0) (pa_cons (pv 6) pa_nil))) pa_nil))))) (pg_name (i := 9) scOw.nd rfl (Or.inl rfl)) (pss_cons (ps_set (i := 10) scOw.nd rfl (Or.inl rfl) (pe_call (ok_law_letter T) (hr.mono (by decide)) (by rfl) T.g_law_letter (T.F_law_letter).kp T.b_law_letter .nil pass0 (pa_cons (pv 2) (pa_cons (pv 4) (pa_cons (pv 5) (pa_cons (pv 9) (pa_cons (pv 3) pa_nil)))))))
      (pss_cons (ps_set (i := 11) scOw.nd rfl (Or.inl rfl) (pe_call (ok_letter T) (hr.mono (by decide)) (by rfl) T.g_letter (T.F_letter).kp T.b_letter .nil pass0 (pa_cons (pv 2) (pa_cons (pv 1) (pa_cons (pv 9) (pa_cons (pv 3) pa_nil))))))
      (pss_one (ps_if (PW.pt (pw_or (pt_not (pt_val (pe_call (ok_law_same T 3) (hr.mono (by omega)) (by rfl) T.g_law_same (T.F_law_same).kp T.b_law_same .nil pass0 (pa_cons (pv 11) (pa_cons (pv 10) pa_nil))))) (pw_or (pt_cmpR (op_notT true) (pe_call (ok_is_letter T) (hr.mono (by decide)) (by rfl) T.g_is_letter (T.F_is_letter).kp T.b_is_letter .nil pass0 (pa_cons (pv 11) pa_nil)) pe_bl (nomark _)) (pw_or1 (pt_not (pt_val (pe_call (ok_law_size_right T) (hr.mono (by decide)) (by rfl) T.g_law_size_right (T.F_law_size_right).kp T.b_law_size_right .nil pass0 (pa_cons (pv 11) pa_nil)))))))) (pss_one (ps_ret pe_bl)) pss_nil)))))
      (pss_one (ps_ret (pe_call (ok_law_same T 3) (hr.mono (by omega)) (by rfl) T.g_law_same (T.F_law_same).kp T.b_law_same .nil pass0 (pa_cons (KG.pe_callKw (ok_letter T) (hr.mono (by decide)) (by rfl) T.g_letter T.F_letter.kp kb pass0 (pk_cons (pv 3) (pk_cons pe_int (pk_cons (pv 1) (pk_cons (pv 2) pk_nil))))) (pa_cons (pe_call (ok_law_letter T) (hr.mono (by decide)) (by rfl) T.g_law_letter (T.F_law_letter).kp T.b_law_letter .nil pass0 (pa_cons (pv 2) (pa_cons (pv 4) (pa_cons (pv 5) (pa_cons pe_int (pa_cons (pv 3) pa_nil)))))) pa_nil))))))))))), ?_⟩
    refine ⟨_, rfl, d, n + 600, rfl, hD, fun v k H1 hk ok f1 D1 => ?_⟩
    refine ⟨_, rfl, d, 4, n + 599, rfl, by decide, by decide, D1, fun house H2 h0 _ f2 D2 => ?_⟩
    refine ⟨_, rfl, d, n + 579, rfl, D2, fun g hs H3 f3 D3 sg hg1 hg4 hpos => ⟨_, _, _, rfl, ?_⟩⟩
    obtain ⟨xd2, hxd2⟩ := D2.lst
    obtain ⟨xd1, hxd1⟩ := D1.lst
    have hk3 := (hk.frm f2 hxd1).frm f3 hxd2
    have f03 := (f1.trans f2).trans f3
    obtain ⟨kt, r, ps, rfl, sq, fz, prs⟩ := id hk3
    refine ⟨_, rfl, kt, _, _, _, rfl, rfl, sq, atI_nat (j := 0) rfl, r, ps, dk k.row, rfl, fz, pairs_dk prs, fun Tb nT => ?_⟩
    rw [show mergeK [] (dk k.row) = dk k.row from merge_dk k.row [] ok.nd]
    have sT := new_same (o := .dK (dk k.row)) nT
    refine ⟨_, rfl, kt, _, _, _, rfl, rfl, (same_tf sT).sq sq, atI_nat (j := 1) rfl, _, _, rfl, ?_⟩
    have hT4 : (upd H3 Tb (.dK (dk k.row))) Tb = some (.dK (dk k.row)) := upd_same
    generalize hH4 : upd H3 Tb (.dK (dk k.row)) = H4 at sT hT4 ⊢
    have hk4 := hk3.tf sT
    refine ⟨(show 1 ≤ sizeLine by decide), fun z0 nz => ?_⟩
    have sz := new_same (o := .lst [.int 0]) nz
    have hT5 := sz _ _ hT4
    have nzT : z0 ≠ Tb := fun q => by rw [q, hT4] at nz; cases nz
    refine ⟨Tb, .dK (dk k.row), hT5, trivial, fun od => ⟨_, rfl, Tb, od, rfl, .inl ⟨_, upd_same, fun D3' hD3 => ?_⟩⟩⟩
    have nD3 : D3' ≠ Tb := fun q => by rw [q, upd_same] at hD3; cases hD3
    rw [upd_ne nD3] at hD3
    have kl : (keys k.row).length = k.row.length := List.length_map _
    have kr := ok.len
    refine lc_it (walk_keys (d := Tb) (o := od) (kvs := dk k.row)) (fun i H' => H' Tb = some (.frz od (.dK (dk k.row))) ∧ H' D3' = some (.lst ((((keys k.row).take i).map fun t => t + 1).map V.int)) ∧ ∀ b o, b ≠ Tb → (upd H4 z0 (.lst [.int 0])) b = some o → H' b = some o)
      ⟨by rw [upd_ne nD3.symm, upd_same], upd_same, fun b o hb z => by rw [upd_ne (ne_of_none z hD3), upd_ne hb]; exact z⟩ (fun i H' _ h => h.1) (fun i x H' Hx hi h y => ?_) (fun H6 h => ?_)
    · obtain ⟨hfz, hacc, sm⟩ := h
      obtain ⟨rfl, y, v0, hyv, rfl⟩ := y
      obtain ⟨a, ha, rfl, rfl⟩ := dk_at hyv
      have hka : (keys k.row)[i]? = some a.1 := by
        unfold keys
        rw [List.getElem?_map, ha]
        rfl
      have hir := (List.getElem?_eq_some_iff.mp ha).1
      refine ⟨rfl, ?_⟩
      dsimp only [tYes]
      rw [if_pos rfl]
      refine ⟨_, rfl, _, _, rfl, rfl, _, hacc, by rw [List.length_map, List.length_map, List.length_take]; exact Nat.lt_of_lt_of_le (show min i (keys k.row).length < 1001 by omega) (by decide), ?_, ?_, fun b o hb z => ?_⟩
      · rw [upd_ne nD3.symm]
        exact hfz
      · rw [upd_same, List.take_add_one, hka, List.map_append, List.map_append]
        rfl
      · rw [upd_ne (ne_of_none z hD3)]
        exact sm b o hb z
    obtain ⟨hfz, hacc, sm⟩ := h
    rw [dk_len, ← kl, List.take_length] at hacc
    have sm5 : Same (upd H4 z0 (.lst [.int 0])) (upd H6 Tb (.dK (dk k.row))) := fun b o z => by
      by_cases e : b = Tb
      · subst e
        rw [hT5] at z
        cases z
        exact upd_same
      · rw [upd_ne e]
        exact sm b o e z
    refine ⟨hfz, z0, D3', _, _, rfl, rfl, sm5 _ _ upd_same, by rw [upd_ne nD3]; exact hacc, by rw [List.length_map, List.length_map, kl]; exact Nat.le_trans (show 1 + k.row.length ≤ 1001 by omega) (by decide), fun cp ncp => ?_⟩
    have sc := new_same (o := .lst ([V.int 0] ++ ((keys k.row).map fun t => t + 1).map V.int)) ncp
    refine ⟨cp, 0 :: (keys k.row).map fun t => t + 1, rfl, SqL.of upd_same, by simp, fun m hm hmax => ⟨_, _, rfl, rfl, ?_⟩⟩
    have hm0 : 0 ≤ m ∧ m ≤ 1001 := by
      refine ⟨hmax 0 List.mem_cons_self, ?_⟩
      rcases List.mem_cons.mp hm with rfl | hm
      · decide
      · obtain ⟨t, ht, rfl⟩ := List.mem_map.mp hm
        obtain ⟨e, he, rfl⟩ := List.mem_map.mp ht
        have := ok.rng e he
        omega
    have s47 := (sz.trans sm5).trans sc
    have s37 := sT.trans s47
    have hT7 := s47 _ _ hT4
    have hk7 := hk3.tf s37
    have sg7 := (same_tf s37).sq sg
    have D7 := D3.same s37
    have f07 := f03.trans (Frm.of_same s37)
    generalize upd (upd H6 Tb (.dK (dk k.row))) cp (.lst ([V.int 0] ++ ((keys k.row).map fun t => t + 1).map V.int)) = H7 at hT7 hk7 sg7 D7 f07 ⊢
    refine least5 (e := k.ends) rfl ?_
    obtain ⟨le, hle⟩ : ∃ le : Int, le = k.ends.getD 5 := ⟨_, rfl⟩
    have hle0 : 0 ≤ le ∧ le ≤ 1000 := by
      rw [hle]
      cases he : k.ends with
      | none => exact ⟨by decide, by decide⟩
      | some e =>
        have := ok.ends e he
        exact ⟨this.1, this.2.1⟩
    rw [← hle]
    obtain ⟨q35, h35, b35⟩ : ∃ q, q = (if m + 3 - 35 > 0 then m + 3 - 35 else 0) ∧ 0 ≤ q ∧ q ≤ 2000 := ⟨_, rfl, by split <;> omega, by split <;> omega⟩
    obtain ⟨q36, h36, b36⟩ : ∃ q, q = (if m + 3 - 36 > 0 then m + 3 - 36 else 0) ∧ 0 ≤ q ∧ q ≤ 2000 := ⟨_, rfl, by split <;> omega, by split <;> omega⟩
    obtain ⟨ql, hql, bql⟩ : ∃ q, q = (if le - 1 > 0 then le - 1 else 0) ∧ 0 ≤ q ∧ q ≤ 2000 := ⟨_, rfl, by split <;> omega, by split <;> omega⟩
    refine ⟨_, rfl, _, _, rfl, rfl, _, rfl, _, _, rfl, rfl, _, rfl, _, _, rfl, rfl, _, _, rfl, _, rfl, _, _, rfl, rfl, _, _, rfl, _, rfl, _, rfl, _, _, rfl, rfl, _, _, rfl, _, rfl, _, _, rfl, rfl, (show 9 ≤ sizeLine by decide), fun A nA => ?_⟩
    rw [← h35, ← h36, ← hql]
    have sA := new_same (o := .lst ([0, 1, m + 3 - 3, m + 3 - 2, q35, q36, le, ql, le + 1].map V.int)) nA
    have hAd := D7.ne nA
    refine ⟨_, rfl, _, rfl, _, rfl, d, m + 3, n + 578, rfl, by omega, by omega, D7.same sA, fun y1 H8 e1 e2 f8 D8 => ?_⟩
    refine ⟨_, rfl, _, rfl, d, m + 3, n + 577, rfl, by omega, by omega, D8, fun y2 H9 e3 e4 f9 D9 => ⟨(show 2 ≤ sizeLine by decide), fun B nB => ?_⟩⟩
    have sB := new_same (o := .lst [.int y1, .int y2]) nB
    have f79 := ((Frm.of_same sA).trans f8).trans f9
    refine ⟨A, B, _, _, rfl, rfl, sB _ _ (f9 A _ hAd (f8 A _ hAd upd_same)), upd_same, (show 11 ≤ sizeLine by decide), fun C nC => ?_⟩
    have sC := new_same (o := .lst ([V.int 0, .int 1, .int (m + 3 - 3), .int (m + 3 - 2), .int q35, .int q36, .int le, .int ql, .int (le + 1)] ++ [.int y1, .int y2])) nC
    have hfs : ∀ f ∈ [0, 1, m + 3 - 3, m + 3 - 2, q35, q36, le, ql, le + 1] ++ [y1, y2], 0 ≤ f ∧ f ≤ 5000 := fun f hf => by
      simp only [List.mem_append, List.mem_cons, List.not_mem_nil, or_false] at hf
      omega
    have eC : (upd (upd H9 B (.lst [.int y1, .int y2])) C (.lst ([V.int 0, .int 1, .int (m + 3 - 3), .int (m + 3 - 2), .int q35, .int q36, .int le, .int ql, .int (le + 1)] ++ [.int y1, .int y2]))) C = some (.lst (([0, 1, m + 3 - 3, m + 3 - 2, q35, q36, le, ql, le + 1] ++ [y1, y2]).map V.int)) := upd_same
    have f7C := (f79.trans (Frm.of_same sB)).trans (Frm.of_same sC)
    have D10 := (D9.same sB).same sC
    generalize [0, 1, m + 3 - 3, m + 3 - 2, q35, q36, le, ql, le + 1] ++ [y1, y2] = fs at hfs eC
    generalize (upd (upd H9 B (.lst [.int y1, .int y2])) C (.lst ([V.int 0, .int 1, .int (m + 3 - 3), .int (m + 3 - 2), .int q35, .int q36, .int le, .int ql, .int (le + 1)] ++ [.int y1, .int y2]))) = H10 at eC f7C D10 ⊢
    obtain ⟨xd7, hxd7⟩ := D7.lst
    have hTd : Tb ≠ d := fun q => by rw [q, hxd7] at hT7; cases hT7
    have up : ∀ {Hk : Hp}, Same H10 Hk → Hk Tb = some (.dK (dk k.row)) ∧ KnH K Hk (.ref kt) k ∧ SqT K Hk g (hs.map V.int) := fun s =>
      ⟨s _ _ (f7C Tb _ hTd hT7), (hk7.frm f7C hxd7).tf s, (same_tf s).sq ((f7C.tf hxd7).sq sg7)⟩
    refine ⟨C, rfl, ⟨_, SqL.of eC⟩, ?_⟩
    refine for_it (walk_list (K := K) (a := C) (xs := fs.map V.int)) (fun i σ H' => ∃ v9 v10 v11 v12, σ = [some (.ref d), some (.ref kt), some (.int house), some (.ref g), some (.ref Tb), some (ov k.ends), some (.int (m + 3)), some (.int le), some (.ref A), v9, v10, v11, v12] ∧ Same H10 H') ⟨_, _, _, _, rfl, Same.refl _⟩ (fun i σ H' _ h => h.choose_spec.choose_spec.choose_spec.choose_spec.2.seq (SqL.of eC)) (fun i x σ H' Hx hi h y => ?_) (fun σ H2 h => ?_)
    · obtain ⟨v9, v10, v11, v12, rfl, sm⟩ := h
      obtain ⟨rfl, hx⟩ := y
      rw [List.length_map] at hi
      rw [List.getElem?_map, List.getElem?_eq_getElem hi] at hx
      cases hx
      have hf := hfs fs[i] (List.getElem_mem hi)
      obtain ⟨hTk, hkk, hgk⟩ := up sm
      refine ⟨_, rfl, _, rfl, _, rfl, _, rfl, _, rfl, house, fs[i], Tb, g, k, hs, rfl, hTk, hgk, hf.1, hf.2, fun u1 H1' s1 l1 => ?_⟩
      obtain ⟨hTk1, hkk1, hgk1⟩ := up (sm.trans s1)
      refine ⟨_, rfl, _, rfl, _, rfl, _, rfl, house, fs[i], .ref kt, g, k, hs, rfl, hkk1, ok, hgk1, h0, hf.1, fun u2 H2' s2 l2 => ?_⟩
      have his := theL_is ok h0 hf.1 hpos (house := house)
      have hrl : (theL k house fs[i] hs).row.length ≤ 1000 := Nat.le_trans (rr_len _ _ _) (by decide)
      have hhl : (theL k house fs[i] hs).heard.length ≤ 1000 := Nat.le_trans hg4 (by decide)
      refine ⟨_, rfl, _, rfl, u2, u1, _, rfl, dp_le l2, dp_le (l1.tf (same_tf s2)), al_le (by omega) (by omega), fun H3' s3 => ⟨true, rfl, iteF ?_⟩⟩
      have l3 := l2.tf (same_tf s3)
      refine ⟨_, rfl, u2, _, rfl, l3, hrl, hhl, fun H4' s4 => ?_⟩
      rw [his]
      refine ⟨rfl, _, rfl, iteF ?_⟩
      refine ⟨_, rfl, u2, _, rfl, l3.tf (same_tf s4), his, hrl, hhl, fun H5' s5 => ⟨true, rfl, iteF ?_⟩⟩
      exact ⟨_, _, _, _, rfl, ((((sm.trans s1).trans s2).trans s3).trans s4).trans s5⟩
    · obtain ⟨v9, v10, v11, v12, rfl, sm⟩ := h
      obtain ⟨hTk, hkk, hgk⟩ := up sm
      refine ⟨_, rfl, _, rfl, _, rfl, house, 2, .ref kt, g, k, hs, rfl, hkk, ok, hgk, h0, by decide, fun u2 H2' s2 l2 => ?_⟩
      obtain ⟨hTk2, hkk2, hgk2⟩ := up (sm.trans s2)
      refine ⟨_, rfl, _, rfl, _, rfl, _, rfl, house, 2, Tb, g, k, hs, rfl, hTk2, hgk2, by decide, by decide, fun u1 H1' s1 l1 => ?_⟩
      have hrl : (theL k house 2 hs).row.length ≤ 1000 := Nat.le_trans (rr_len _ _ _) (by decide)
      have hhl : (theL k house 2 hs).heard.length ≤ 1000 := Nat.le_trans hg4 (by decide)
      refine ⟨u2, u1, _, rfl, dp_le (l2.tf (same_tf s1)), dp_le l1, al_le (by omega) (by omega), fun H3' s3 => ?_⟩
      have sF := ((sm.trans s2).trans s1).trans s3
      exact kk H3' ((f07.trans f7C).trans (Frm.of_same sF)) ((D10.same sF).le (by omega))
end
end K50
set_option maxRecDepth 100000
set_option maxHeartbeats 4000000
/-! The law. -/
namespace K50
open PySem PySem.Spec PyProof.Rows L2 KF KD
section
variable {P : Program} {w : World} {K : PySem.W.Frag} {mg : Str → Option Value} {base : Heap}
def spLaw (K : PySem.W.Frag) : Sp := fun vs H Q _ => ∃ (a : Addr) (ns : List Int), vs = [.ref a] ∧ SqL K H a (ns.map V.int) ∧ ns.length ≤ 63 ∧ ∀ H', Q (.bl true) H'
theorem scLw : FnScope ["script", "at", "deck", "good", "turn", "bent", "told"] ["script"] (defScope s_law) := ⟨rfl, rfl, rfl, by decide +kernel, rfl, by decide +kernel, by decide +kernel⟩
theorem ok_law (T : Txt K w mg) : FnOk P w K mg base CX0 9 (He.fAd K ("law", none)) (fdAt K (He.fAd K ("law", none))) ["script"] (spLaw K) := by
  have kb1 : KBinds K (fdAt K (He.fAd K ("is_letter", none))) ["told"] ["told"] KG.kR KG.kR := KG.kb_rev T.F_is_letter (by decide) fun _ _ _ _ _ _ ws hl => match ws, hl with | [_], _ => rfl
  have kb2 : KBinds K (fdAt K (He.fAd K ("size_in_bits", none))) ["letter"] ["letter"] KG.kR KG.kR := KG.kb_rev T.F_size_in_bits (by decide) fun _ _ _ _ _ _ ws hl => match ws, hl with | [_], _ => rfl
  refine T.F_law.ok scLw (fun vs H Q E h => ?_) (fun cdv A outer s H vs Q E hr h => ?_)
  · obtain ⟨a, ns, rfl, _⟩ := h
    rfl
  · obtain ⟨a, ns, rfl, hS, hln, kk⟩ := h
    refine ⟨_, PSs.nox (pss_cons (ps_for PassesOwn.never rfl (pi_range1 (by rfl) T.n_range (pa_cons (pe_callB (call_max2 rfl) (by rfl) T.n_max PyProof.Rows.Boot.«max» (pa_cons pe_int (pa_cons (pe_callB (call_min2 rfl) (by rfl) T.n_min PyProof.Rows.Boot.«min» (pa_cons pe_int (pa_cons (pe_callB (r := Evl.rLenS K) call_len_seq (by rfl) T.n_len PyProof.Rows.Boot.«len» (pa_cons (pv 0) pa_nil)) pa_nil))) pa_nil))) pa_nil)) (pg_name (i := 1) scLw.nd rfl (Or.inl rfl)) (pss_cons (ps_set (i := 2) scLw.nd rfl (Or.inl rfl) (pe_call (ok_law_deck T) (hr.mono (by decide)) (by rfl) T.g_law_deck (T.F_law_deck).kp T.b_law_deck .nil pass0 (pa_cons (pv 0) (pa_cons (pv 1) pa_nil))))
      (pss_cons (ps_if (pt_not (pt_val (pe_call (ok_law_own_right T) (hr.mono (by decide)) (by rfl) T.g_law_own_right (T.F_law_own_right).kp T.b_law_own_right .nil pass0 (pa_cons (pv 2) pa_nil)))) (pss_one (ps_ret pe_bl)) pss_nil)
      (pss_cons (ps_set (i := 3) scLw.nd rfl (Or.inl rfl) (pe_call (ok_law_drawn T) (hr.mono (by decide)) (by rfl) T.g_law_drawn (T.F_law_drawn).kp T.b_law_drawn .nil pass0 (pa_cons (pv 2) pa_nil)))
      (pss_cons (ps_if (PW.pt (pw_or (pt_cmpR (op_notT true) (KG.pe_callKw (ok_is_letter T) (hr.mono (by decide)) (by rfl) T.g_is_letter T.F_is_letter.kp kb1 pass0 (pk_cons (pv 3) pk_nil)) pe_bl (nomark _)) (pw_or1 (pt_not (pt_val (pe_call (ok_law_size_right T) (hr.mono (by decide)) (by rfl) T.g_law_size_right (T.F_law_size_right).kp T.b_law_size_right .nil pass0 (pa_cons (pv 3) pa_nil))))))) (pss_one (ps_ret pe_bl)) pss_nil)
      (pss_one (ps_for PassesOwn.never rfl (pi_range1 (by rfl) T.n_range (pa_cons pe_int pa_nil)) (pg_name (i := 4) scLw.nd rfl (Or.inl rfl)) (pss_cons (ps_set (i := 5) scLw.nd rfl (Or.inl rfl) (pe_call (ok_law_bent T) (hr.mono (by decide)) (by rfl) T.g_law_bent (T.F_law_bent).kp T.b_law_bent .nil pass0 (pa_cons (pv 2) (pa_cons (pv 3) pa_nil))))
      (pss_cons (ps_set (i := 6) scLw.nd rfl (Or.inl rfl) (pe_call (ok_is_letter T) (hr.mono (by decide)) (by rfl) T.g_is_letter (T.F_is_letter).kp T.b_is_letter .nil pass0 (pa_cons (pv 5) pa_nil)))
      (pss_cons (ps_if (PW.pt (pw_or (pt_not (pt_val (pe_callB (r := rIsi K) call_isi (by rfl) T.n_isinstance PyProof.Rows.Boot.«isinstance» (pa_cons (pv 6) (pa_cons (pe_bltn (v := .ty "bool") (by rfl) T.n_bool PyProof.Rows.Boot.«bool» rfl) pa_nil))))) (pw_or1 (pt_cmpR op_ne (pv 6) (pe_call (ok_law_is_letter T) (hr.mono (by decide)) (by rfl) T.g_law_is_letter (T.F_law_is_letter).kp T.b_law_is_letter .nil pass0 (pa_cons (pv 5) pa_nil)) (nomark _))))) (pss_one (ps_ret pe_bl)) pss_nil)
      (pss_one (ps_if (PW.pt (pw_or (PW.pt (pw_and (pt_val (pv 6)) (pw_and1 (pt_not (pt_val (pe_call (ok_law_same T 2) (hr.mono (by omega)) (by rfl) T.g_law_same (T.F_law_same).kp T.b_law_same .nil pass0 (pa_cons (KG.pe_callKw (ok_size_in_bits T) (hr.mono (by decide)) (by rfl) T.g_size_in_bits T.F_size_in_bits.kp kb2 pass0 (pk_cons (pv 5) pk_nil)) (pa_cons (pe_call (ok_size_in_bits T) (hr.mono (by decide)) (by rfl) T.g_size_in_bits (T.F_size_in_bits).kp T.b_size_in_bits .nil pass0 (pa_cons (pv 5) pa_nil)) pa_nil)))))))) (pw_or1 (PW.pt (pw_and (pt_val (pv 6)) (pw_and1 (pt_not (pt_val (pe_call (ok_law_size_right T) (hr.mono (by decide)) (by rfl) T.g_law_size_right (T.F_law_size_right).kp T.b_law_size_right .nil pass0 (pa_cons (pv 5) pa_nil)))))))))) (pss_one (ps_ret pe_bl)) pss_nil))))))))))))
      (pss_one (ps_ret pe_bl))), ?_⟩
    obtain ⟨M, hM, hM6⟩ : ∃ M : Int, M = (if (if (((ns.map V.int).length : Nat) : Int) < 8 then (((ns.map V.int).length : Nat) : Int) else 8) > 1 then (if (((ns.map V.int).length : Nat) : Int) < 8 then (((ns.map V.int).length : Nat) : Int) else 8) else 1) ∧ 0 ≤ M ∧ M ≤ 8 := by
      refine ⟨_, rfl, ?_⟩
      constructor
      · split
        · omega
        · omega
      · split
        · split <;> omega
        · omega
    refine ⟨_, rfl, a, _, rfl, .inl hS, _, _, rfl, _, _, rfl, M, by rw [hM], by omega, by omega, ?_⟩
    refine for_range (lo := 0) (n := M.toNat) (fun i σ H' => ∃ (v1 v2 v3 v4 v5 v6 : Option V), σ = [some (.ref a), v1, v2, v3, v4, v5, v6] ∧ Same H H') ⟨_, _, _, _, _, _, rfl, Same.refl _⟩ (fun i σ H0 hi hPv => ?_) (fun σ H0 hPv => kk H0)
    obtain ⟨v1, v2, v3, v4, v5, v6, rfl, sH⟩ := hPv
    have hi6 : i < 8 := by omega
    refine ⟨_, rfl, _, rfl, a, ns, i, by rw [Int.zero_add]; rfl, sH.seq hS, by omega, fun d H1 s1 n1 D1 => ?_⟩
    refine ⟨_, rfl, d, 800000000000, rfl, D1.le (by decide), fun H2 f2 D2 => ⟨true, rfl, iteF ?_⟩⟩
    refine ⟨_, rfl, d, 700000000000, rfl, D2.le (by decide), fun u l H3 f3 D3 hl his hr1 hg1 hg4 => ?_⟩
    have s03 : Same H0 H3 := frm_same (frm_same s1 n1 f2) n1 f3
    refine ⟨_, rfl, u, l, rfl, hl, by omega, by omega, fun H4 s4 => ?_⟩
    rw [his]
    refine ⟨rfl, _, rfl, iteF ?_⟩
    refine ⟨_, rfl, u, l, rfl, hl.tf (same_tf s4), his, by omega, by omega, fun H5 s5 => ⟨true, rfl, iteF ?_⟩⟩
    have s35 := s4.trans s5
    refine ⟨4, rfl, by decide, by decide, ?_⟩
    refine for_range (lo := 0) (n := 4) (fun j σ H' => ∃ (v4 v5 v6 : Option V), σ = [some (.ref a), some (.int (0 + (i : Int))), some (.ref d), some u, v4, v5, v6] ∧ Same H0 H' ∧ LeH K H' u l ∧ Dk H' d (700000000000 - 100 * j)) ⟨_, _, _, rfl, s03.trans s35, hl.tf (same_tf s35), D3.same s35⟩ (fun j σ H6 hj h => ?_) (fun σ H6 h => ?_)
    · obtain ⟨w4, w5, w6, rfl, s06, hl6, D6⟩ := h
      refine ⟨_, rfl, _, rfl, d, u, l, 700000000000 - 100 * (j + 1), rfl, D6.le (by omega), hl6, hr1, hg1, hg4, fun b lb H7 f7 D7 hb hbr hbg => ?_⟩
      obtain ⟨xd6, hxd6⟩ := D6.lst
      have s07 : Same H0 H7 := frm_same s06 n1 f7
      have hl7 := hl6.tf (f7.tf hxd6)
      refine ⟨_, rfl, b, lb, rfl, hb, by omega, by omega, fun H8 s8 => ?_⟩
      refine ⟨_, rfl, _, _, _, _, _, rfl, .ty "bool", .base (.bl _), kit_ty (r := true) (by decide +kernel), _, rfl, iteF ?_⟩
      refine ⟨_, rfl, _, rfl, b, lb, rfl, hb.tf (same_tf s8), by omega, by omega, fun H9 s9 => ⟨by rfl, _, rfl, ?_⟩⟩
      rw [decide_eq_true (rfl : V.bl lb.is = V.bl lb.is)]
      refine iteF ?_
      have s79 := s8.trans s9
      have fin : ∀ H', Same H7 H' → ∃ (v4 v5 v6 : Option V), [some (.ref a), some (.int (0 + (i : Int))), some (.ref d), some u, some (.int (0 + (j : Int))), some b, some (.bl lb.is)] = [some (.ref a), some (.int (0 + (i : Int))), some (.ref d), some u, v4, v5, v6] ∧ Same H0 H' ∧ LeH K H' u l ∧ Dk H' d (700000000000 - 100 * (j + 1)) := fun H' s => ⟨_, _, _, rfl, s07.trans s, hl7.tf (same_tf s), D7.same s⟩
      cases hi : lb.is with
      | false =>
        rw [hi] at fin
        exact ⟨_, rfl, _, rfl, iteF (iteF ⟨_, rfl, _, rfl, iteF (iteF (fin H9 s79))⟩)⟩
      | true =>
        rw [hi] at fin
        refine ⟨_, rfl, _, rfl, iteT ?_⟩
        refine ⟨_, rfl, b, lb, rfl, hb.tf (same_tf s79), hi, by omega, by omega, fun H10 s10 => ?_⟩
        refine ⟨_, rfl, b, lb, rfl, hb.tf (same_tf (s79.trans s10)), hi, by omega, by omega, fun H11 s11 => ?_⟩
        refine ⟨_, _, .int (sizeL lb), rfl, .int _, .int _, trivial, fun H12 s12 => ⟨true, rfl, iteF ?_⟩⟩
        have s712 := ((s79.trans s10).trans s11).trans s12
        refine ⟨_, rfl, _, rfl, iteT ?_⟩
        exact ⟨_, rfl, b, lb, rfl, hb.tf (same_tf s712), hi, by omega, by omega, fun H13 s13 => ⟨true, rfl, iteF (fin H13 (s712.trans s13))⟩⟩
    · obtain ⟨w4, w5, w6, rfl, s06, hl6, D6⟩ := h
      exact ⟨_, _, _, _, _, _, rfl, sH.trans s06⟩
end
end K50
set_option maxRecDepth 100000
set_option maxHeartbeats 0
open PySem PySem.W PySem.Calls PyProof.Rows
set_option maxHeartbeats 0 in
theorem PySem.Challenge.cw_latepresses_k50_whole_letters_by_the_wor_holds : PySem.Challenge.rw_latepresses_k50_whole_letters_by_the_wor.Holds := by
  w_on; o_law
  refine HandSHeadRun.head_any (r := K50.R) (q := view K50.R.prog [41]) (H := K50.hk) (ob := K50.ob) (M := 20000) (loose := K50.loose) (d := HandSHeadRun.topDef K50.R.prog 41) (kwd := []) K50.ob_eq
    (by kernel_rfl) (fun s => by kernel_rfl) K50.run (by kernel_rfl) (by kernel_rfl) (by kernel_rfl) (by rfl) (by first | assumption | decide +kernel) (by decide +kernel) ⟨rfl, rfl, rfl, rfl, rfl, by decide +kernel⟩ ?hw ?hc
  case hw => w_witness2
  case hc =>
    refine L2.walk_ofE (l := PySem.Challenge.rw_latepresses_k50_whole_letters_by_the_wor) (n := 63) (k := 9) (x := "script") (CX := L2.CX0) rfl (by decide) (by kernel_rfl) ⟨rfl, by decide, by decide⟩ ?F (fun _ _ _ _ z => z)
    intro w mg fa h Y G hmg0
    obtain ⟨K, KX, c⟩ := Y
    have hmg : mg ("law" : PySem.Str) = some (.ref fa) := by
      have e : (HandSHeadRun.topDef K50.R.prog 41).name = ("law" : PySem.Str) := by kernel_rfl
      rw [← e]
      exact hmg0
    have T := K50.txt_of KX G c
    have e := hmg.symm.trans T.g_law
    cases e
    exact ⟨K, K50.fdAt K (He.fAd K ("law", none)), K50.spLaw K, KX, fun s v => L2.FunD.bindsA (ps := ["script"]) T.F_law (fun _ _ _ _ _ _ us hl => match us, hl with | [_], _ => rfl) s [v] rfl, fun H a ns hl _ hS => ⟨a, ns, rfl, hS, hl, fun _ => rfl⟩, fun base _ _ => K50.ok_law T⟩
#print axioms PySem.Challenge.cw_latepresses_k50_whole_letters_by_the_wor_holds
