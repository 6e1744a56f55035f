import PyProof.Rows.All
import Wide.All
import OpenK.AllK
import Wide.FinOn
import HandS.ForMost
import HandS.ForExc
import HandS.ExcIs
import HandS.ExcValue
import HandS.IsInst
import HandS.AnyAll
import HandS.Deep
import HandS.Style
import HandS.Wide
import HandS.SortInts
import HandS.DictComp
import HandS.EndOwn
import HandS.Flow
import HandS.RevRange
import HandS.More
import HandS.GenList
import HandS.Defaults
import HandS.Zip
import HandS.TupSets
import KE.KEqDeep
import KE.SortData
import HandS.Conv
import HandS.HeadWalk
import HandS.SetFor
import HandS.Strs
import HandS.HeadHook1
import KE.KStateDown
import HandS.Head0
import HandS.Head1
import HandS.Head2
import HandS.Head3
import HandS.HeadEnd
import HandS.HeadHook2
import HandS.HeadHook3
import HandS.HeadHook4
import PySem.Challenge.RW_ontheline_k50_margins
set_option Elab.async false
set_option linter.all false
set_option maxRecDepth 100000
set_option maxHeartbeats 4000000
namespace L2
open PySem PySem.Spec PyProof.Rows
/-! ### a caught exception that is kept: except x as n: y = n -/
/-- an exception at a, its class cls, its dict d -/
def EK (cls : Value) (d : Option Addr) (a : Addr) : HO := .ext fun h => ∃ (oe : Obj) (vs : Array Value), h.get? a = some oe ∧ Zc cls d oe ∧ oe.data = .fields vs
theorem ek_ok {P : Program} {w : World} {H : Hp} {h : Heap} {a : Addr} {cls : Value} {d : Option Addr} {oe : Obj} {vs : Array Value} (e : h.get? a = some oe) (z : Zc cls d oe) (q : oe.data = .fields vs) : ObjOk P w H h a (EK cls d a) :=
  ⟨⟨oe, vs, e, z, q⟩, ⟨oe, e⟩, fun _ _ ⟨o, v, q, r⟩ k => ⟨o, v, k o q, r⟩⟩
def wKp (K : PySem.W.Frag) (c : Value) (i j : Nat) (Wout : WX) (D : Ends) : WX := fun cls d σ H =>
  ∃ b, PySem.W.exmOne K cls c = some b ∧ (b = true → ∀ a, H a = none → D.nx (((σ.set i (some (.ref a))).set j (some (.ref a))).set i none) (upd H a (EK cls d a))) ∧ (b = false → Wout cls d σ H)
section
variable {X : Cx} {pins : List (Addr × Obj)} {σ : St} {H : Hp} {s : Shared}
/-- an untracked object of ours, new since the entry, is tracked -/
theorem Inv.track {a : Addr} {o : HO} (I : Inv X pins σ H s) (hn : H a = none) (h0 : X.s_0.heap.get? a = none) (nL : a ≠ X.env.locals) (nC : ∀ x c, X.env.cells.lookup x = some c → c ≠ a) (np : ∀ p ∈ X.pn ++ pins, p.1 ≠ a) (new : ObjOk X.prog X.w (upd H a o) s.heap a o) :
    Inv X pins σ (upd H a o) s :=
  ⟨I.ok, I.os, I.bare, ⟨I.base.keep, I.base.slot, fun b u q n hx => by rw [upd_ne (fun z => by rw [z, h0] at q; cases q)]; exact I.base.free b u q n hx, I.base.there,
    fun b xs q => by have q2 := I.base.tups b xs q; rw [upd_ne (ne_of_none q2 hn)]; exact q2, fun b o u q => by have q2 := I.base.frzs b o u q; rw [upd_ne (ne_of_none q2 hn)]; exact q2,
    fun b ps q => by obtain ⟨m, q2⟩ := I.base.tbls b ps q; exact ⟨m, by rw [upd_ne (ne_of_none q2 hn)]; exact q2⟩⟩,
    I.loc, I.cell, by rw [upd_ne (Ne.symm nL)]; exact I.free, fun x c e => by rw [upd_ne (nC x c e)]; exact I.freeC x c e,
    fun p hp => by obtain ⟨e, n, r⟩ := I.pin p hp; exact ⟨e, by rw [upd_ne (np p hp)]; exact n, r⟩, I.hok.laidN (fun b u q => q) hn new, I.len⟩
end
section
variable {X : Cx} {x n y : Str} {c : Value} {i j : Nat} {body : List Stmt} {np pos pos' py pn1 pa : Pos} {tb : WX → TS} {Wout : WX}
theorem ps_try_keep (hs : X.stack = X.env :: X.outer) (hf : X.env.frame = some X.env.locals) (hN : X.N.Nodup) (hi : X.N[i]? = some n) (hln : X.env.kindOf n = some .local) (hvn : Vis X.env.scope n) (hj : X.N[j]? = some y) (hlj : Loc X.env.scope y) (hfj : X.env.scope.names.lookup y = some .local)
    (hij : i ≠ j) (hex : X.ex = []) (hpn : X.pn = []) (hd : (n == ("__debug__" : Str)) = false) (hcd : (n == ("__classdict__" : Str)) = false) (hc : Names X x c) (tk : Takes X Wout)
    (hsw : swapsWith (.Name n pn1) (some (.Name y py)) pa.line X.env = pure false)
    (hb : ∀ (W : WX) (pn : List (Addr × Obj)) (xe : Value → Shared → Prop), Takes (X.tr pn xe) W → PassesOwn (model X.prog X.w) X.A X.env xe → PSs (X.tr pn xe) body (tb W)) :
    PS X (.Try body [.ExceptHandler (some (.Name x np)) (some n) [.Assign [.Name y py] (.Name n pn1) pa] pos'] [] [] pos) (fun D σ H => tb (wKp X.K c i j Wout D) D σ H) := by
  refine ⟨fun pins s σ H D I h => ?_⟩
  have ok := I.ok
  have hfr : X.A.frames = some (X.env :: X.outer) := by rw [ok.frames, hs]
  have hloc : Loc X.env.scope n := .inl hln
  refine wpAny_Try_except ?_
  refine wpAny_mono ((hb (wKp X.K c i j Wout D) (X.pn ++ pins) (fun e s₁ => wpAny (model X.prog X.w) X.A (noteFrame e X.env) (fun _ s₂ => wpAny (model X.prog X.w) X.A (setFlight e none) (fun _ s₃ =>
    wpAny (model X.prog X.w) X.A (handleBy e X.env [.ExceptHandler (some (.Name x np)) (some n) [.Assign [.Name y py] (.Name n pn1) pa] pos']) (SP X pins D) X.xe s₃) X.xe s₂) X.xe s₁) (fun u s' xx => ?_) PassesOwn.looking).run [] s σ H D (I.toTry _) h) (fun f s1 hsp => ?_) (fun e s1 he => he)
  · obtain ⟨a, B, sI, pins', σ', H', cls, d, rfl, J', nb, up, sky, na, os, ag, b, hb1, hyes, hno⟩ := xx
    have J : Inv X pins σ' H' sI := J'.ofTry ok
    have sky' : Sky B (X.env :: X.outer) a (Zc cls d) X.env.locals s'.heap := by rw [← hs]; exact sky
    show wpAny (model X.prog X.w) X.A (noteFrame (.ref a) X.env) _ _ _
    refine Sky.land Zc.steady hfr hf sky' fun h3 fl3 up3 => ?_
    have J3 : Inv X pins σ' H' { s' with heap := h3 } := J.landed nb fl3.1 (up.trans up3) os ag
    obtain ⟨oe3, vs3, he3, hz3, hd3⟩ := fl3.there
    have notFr : ∀ {h : Heap} {o : Obj} {vs : Array Value}, h.FunFrames B (X.env :: X.outer) → h.get? a = some o → o.data = .fields vs → a ∉ frs (X.env :: X.outer) := fun {h o vs} ff e dd hm => by
      obtain ⟨_, o', e', hnf⟩ := ff.mem hm
      rw [e] at e'; cases e'
      exact hnf _ dd
    have nfr := notFr fl3.2.2.1 he3 hd3
    have nL : a ≠ X.env.locals := fun z => nfr (List.mem_filterMap.mpr ⟨X.env, List.mem_cons_self, by rw [hf, z]⟩)
    have nF : a ∉ X.fs := fun hm => by
      obtain ⟨e, he, q⟩ := List.mem_filterMap.mp hm
      exact nfr (List.mem_filterMap.mpr ⟨e, List.mem_cons_of_mem _ he, q⟩)
    have S3 := J3.suite he3 hd3 na nL nF
    have h0 : X.s_0.heap.get? a = none := by
      cases e : X.s_0.heap.get? a with
      | none => rfl
      | some o =>
        obtain ⟨o', e'⟩ := J.base.there a o e (by rw [hex]; simp)
        have e2 := nb a o' e' (by rw [hs]; exact nfr)
        have e3 := fl3.2.1
        rw [e2] at e3; cases e3
    have nC : ∀ z cc, X.env.cells.lookup z = some cc → cc ≠ a := fun z cc e q => by
      obtain ⟨v, o, ho, hv⟩ := J3.cell z cc e
      rw [q, he3] at ho; cases ho
      rw [hd3] at hv; cases hv
    have npins : ∀ p ∈ X.pn ++ pins, p.1 ≠ a := fun p hp q => by
      obtain ⟨e1, _⟩ := J.pin p hp
      have e2 := nb p.1 _ e1 (by rw [hs, q]; exact nfr)
      have e3 := fl3.2.1
      rw [q] at e2
      rw [e2] at e3; cases e3
    refine wpAny_handleBy_cons (codeAny_handlers_test ?_) (by intro q; cases q)
    have LT : PySem.W.Looks (model X.prog X.w) h3 (typeOf (.ref a)) cls := fun A Q E s k q => wpAny_typeOf_ref (k _ _ he3) (by rw [hz3.1]; exact q)
    have LM := PySem.W.exm_one (M := model X.prog X.w) (J3.kIn) LT hb1
    have test : ∀ {Q : Value → Shared → Prop} {E : Value → Shared → Prop}, Q c { s' with heap := h3 } → wpAny (model X.prog X.w) (X.A.mark (some (.ref a))) (eval (.Name x np) X.env) Q E { s' with heap := h3 } := fun {Q E} q => by
      obtain ⟨hg, hdbg, hm | ⟨hm, hv, hnn⟩⟩ := hc
      · exact ld_glob (X := X.suite a ((a, oe3) :: (X.pn ++ pins))) S3 hg hm q hdbg
      · exact ld_blt (X := X.suite a ((a, oe3) :: (X.pn ++ pins))) S3 hg hm hv q hnn hdbg
    refine test (LM.here ?_)
    cases b with
    | true =>
      refine codeAny_handlers_suite_as ?_
      refine HandSPX.lands_againZ fl3 fun h4 fl4 up4 => ?_
      have J4 : Inv X pins σ' H' { s' with heap := h4 } := J.landed nb fl4.1 ((up.trans up3).trans up4) os ag
      obtain ⟨oe4, vs4, he4, hz4, hd4⟩ := fl4.there
      have S4 := J4.suite he4 hd4 na nL nF
      refine store_ok (X := X.suite a ((a, oe4) :: (X.pn ++ pins))) (v := .ref a) S4 hN hi hloc rfl (fun s5 S5 => ?_) (.inr hln)
      have run := (pss_one (ps_set (X := X.suite a ((a, oe4) :: (X.pn ++ pins))) (pos := pa) hN hj hlj (pe_var (X := X.suite a ((a, oe4) :: (X.pn ++ pins))) (pos := pn1) hi hvn hd hcd) hsw (.inr hfj))).run [] s5 _ H' { nx := fun σ6 H6 => σ6 = (σ'.set i (some (.ref a))).set j (some (.ref a)) ∧ H6 = H', rt := fun _ _ => False, bk := fun _ _ => False, ct := fun _ _ => False } S5
        (⟨.ref a, List.getElem?_set_self (by rw [J.len]; exact (List.getElem?_eq_some_iff.mp hi).1), rfl, rfl⟩ : _)
      refine wpAny_mono run (fun f s6 hsp => ?_) (fun _ _ z => False.elim z)
      cases f with
      | next =>
        obtain ⟨σ6, H6, S6, e6, e7⟩ := hsp
        subst e6 e7
        obtain ⟨he6, _⟩ := S6.pin (a, oe4) (List.mem_append.mpr (.inl List.mem_cons_self))
        have T6 := (S6.unsuite ok).track (o := EK cls d a) na h0 nL nC npins (ek_ok he6 hz4 hd4)
        exact gone_ok T6 hN hi hln fun s7 J7 => ⟨_, _, J7, hyes rfl a na⟩
      | brk => obtain ⟨_, _, _, z⟩ := hsp; exact z.elim
      | cont => obtain ⟨_, _, _, z⟩ := hsp; exact z.elim
      | ret u => obtain ⟨_, _, _, _, _, z⟩ := hsp; exact z.elim
    | false =>
      show wpAny _ X.A (handleBy (.ref a) X.env []) _ _ _
      refine wpAny_handleBy_nil ?_
      obtain ⟨k1, k2, k3, oe, vs, T, oT, ts', he, hz, hd, h1, hr⟩ := id fl3
      unfold PySem.passOn
      refine wpAny_bind (wpAny_field he hd h1 ?_)
      rw [if_neg (show ¬ ((Value.ref T == Value.none) = true) from by simp)]
      have fin : wpAny (model X.prog X.w) X.A (setFlight (.ref a) X.env.frame) (fun _ s4 => wpAny (model X.prog X.w) X.A (throw (.ref a) : Sem Flow) (SP X pins D) X.xe s4) X.xe { s' with heap := h3 } := by
        rw [hf]
        refine HandSPX.setFlight_upZ fl3 fun h4 hh4 up4 => wpAny_throw (tk _ _ ?_)
        exact ⟨a, B, sI, pins, σ', H', cls, d, rfl, J, nb, (up.trans up3).trans up4, .inr (.inr (by rw [hs]; exact hh4)), na, os, ag, hno rfl⟩
      first
        | exact wpAny_bind (wpAny_pure (wpAny_bind fin))
        | exact wpAny_bind fin
  · cases f with
    | next =>
      obtain ⟨σ', H', J', q⟩ := hsp
      exact wpAny_execs_nil ⟨σ', H', J'.ofTry ok, q⟩
    | brk =>
      obtain ⟨σ', H', J', q⟩ := hsp
      exact ⟨σ', H', J'.ofTry ok, q⟩
    | cont =>
      obtain ⟨σ', H', J', q⟩ := hsp
      exact ⟨σ', H', J'.ofTry ok, q⟩
    | ret u =>
      obtain ⟨v, σ', H', J', r, q⟩ := hsp
      exact ⟨v, σ', H', J'.ofTry ok, r, q⟩
end
/-- isinstance(e, c), e a kept exception of the class at D -/
def rIsX (K : PySem.W.Frag) : List V → Hp → VK → Prop := fun xs H Q => ∃ (a D : Addr) (c : V) (cv : Value) (b : Bool), xs = [.ref a, c] ∧ H a = some (EK (.ref D) none a) ∧ ExcC K D ∧ (∀ u, RelV c u → u = cv) ∧ PySem.W.kitOne K (.ref D) cv = some b ∧ Q (.bl b) H
theorem call_isX {X : Cx} : CallR X (.builtin "isinstance") (rIsX X.K) := by
  intro pins s σ H xs us Q I r h
  obtain ⟨a, D, c, cv, b, rfl, ha, C, hcv, e, q⟩ := h
  obtain ⟨u1, u2, rfl, rx, rt⟩ := vals2 r
  cases rx
  have ec := hcv _ rt
  subst ec
  have x : ObjOk X.prog X.w H s.heap a (EK (.ref D) none a) := I.hok a _ ha
  obtain ⟨⟨oe, vs, hget, hz, hv⟩, _, _⟩ := x
  have J : PySem.W.InstAt s.heap a oe D none := by
    obtain ⟨oc, od, oda, osl⟩ := oe
    obtain ⟨h1, h2⟩ := hz
    dsimp only at h1 h2 hv
    subst h1 h2 hv
    exact ⟨hget, rfl, rfl, trivial⟩
  exact PySem.W.kia_one (PySem.W.handS_kitx_exc C.hg C.hk C.hs C.hd C.ha C.hn C.ht C.hm) I.kIn J e (fun z => nomatch z) fun tk => ⟨.bl b, H, I.kept (t' := tk) fun _ _ z => z, rfl, q⟩
end L2

set_option Elab.async false
set_option linter.all false
set_option maxRecDepth 100000
set_option maxHeartbeats 4000000
namespace M
open PySem PySem.Spec PyProof.Rows L2

/-! ### heaps, the world -/
def Ex (H H' : Hp) : Prop := ∀ a o, H a = some o → H' a = some o
theorem Ex.refl (H : Hp) : Ex H H := fun _ _ h => h
theorem Ex.trans {H H1 H2 : Hp} (a : Ex H H1) (b : Ex H1 H2) : Ex H H2 := fun x o h => b x o (a x o h)
theorem Ex.new {H : Hp} {p : Addr} {o : HO} (h : H p = none) : Ex H (upd H p o) := fun a u e => by
  rw [upd_ne (ne_of_none e h)]
  exact e
theorem ex_rd {H H' : Hp} {a : Addr} {u : HO} (e : Ex H H') (h : Rd H a u) : Rd H' a u := by
  rcases h with h | ⟨o, h⟩
  · exact Or.inl (e a _ h)
  · exact Or.inr ⟨o, e a _ h⟩
theorem ex_l {K : PySem.W.Frag} {H H' : Hp} {a : Addr} {xs : List V} (e : Ex H H') (h : SqL K H a xs) : SqL K H' a xs := by
  rcases h with h | h
  · exact Or.inl (ex_rd e h)
  · exact Or.inr h
theorem ex_t {K : PySem.W.Frag} {H H' : Hp} {a : Addr} {xs : List V} (e : Ex H H') (h : SqT K H a xs) : SqT K H' a xs := by
  rcases h with h | h
  · exact Or.inl (ex_rd e h)
  · exact Or.inr h
/-! data at any depth, as it lies in the tracked heap -/
mutual
inductive Dt (K : PySem.W.Frag) (G : Hp) : V → PyData → Prop
  | non : Dt K G .non .none
  | bl (b : Bool) : Dt K G (.bl b) (.bool b)
  | int (i : Int) : Dt K G (.int i) (.int i)
  | str (x : Str) : Dt K G (.str x) (.str x)
  | lst {a : Addr} {xs : List V} {ds : List PyData} : G a = some (.lst xs) → DtAll K G xs ds → Dt K G (.ref a) (.list ds)
  | tup {a : Addr} {xs : List V} {ds : List PyData} : SqT K G a xs → DtAll K G xs ds → Dt K G (.ref a) (.tuple ds)
inductive DtAll (K : PySem.W.Frag) (G : Hp) : List V → List PyData → Prop
  | nil : DtAll K G [] []
  | cons {v : V} {vs : List V} {d : PyData} {ds : List PyData} : Dt K G v d → DtAll K G vs ds → DtAll K G (v :: vs) (d :: ds)
end
variable {K : PySem.W.Frag}
mutual
theorem dp_ex {G G' : Hp} (e : Ex G G') : ∀ (d : PyData) (v : V), Dt K G v d → Dt K G' v d
  | .none, _, h => by cases h; exact .non
  | .bool b, _, h => by cases h; exact .bl b
  | .int i, _, h => by cases h; exact .int i
  | .str x, _, h => by cases h; exact .str x
  | .list ds, _, h => by
    cases h with
    | lst hs ha => exact .lst (e _ _ hs) (dpAll_ex e ds _ ha)
  | .tuple ds, _, h => by
    cases h with
    | tup hs ha => exact .tup (ex_t e hs) (dpAll_ex e ds _ ha)
  | .dict _, _, h => by cases h
theorem dpAll_ex {G G' : Hp} (e : Ex G G') : ∀ (ds : List PyData) (vs : List V), DtAll K G vs ds → DtAll K G' vs ds
  | [], _, h => by cases h; exact .nil
  | d :: ds, _, h => by
    cases h with
    | cons h1 h2 => exact .cons (dp_ex e d _ h1) (dpAll_ex e ds _ h2)
end
theorem dpa_len {G : Hp} : ∀ {ds : List PyData} {vs : List V}, DtAll K G vs ds → vs.length = ds.length
  | [], _, h => by cases h; rfl
  | d :: ds, _, h => by
    cases h with
    | cons h1 h2 => simp [dpa_len h2]
theorem dpa_get {G : Hp} : ∀ {ds : List PyData} {vs : List V} {i : Nat} {d : PyData}, DtAll K G vs ds → ds[i]? = some d → ∃ v, vs[i]? = some v ∧ Dt K G v d
  | [], _, i, d, h, e => by simp at e
  | d' :: ds, _, 0, d, h, e => by
    cases h with
    | cons h1 h2 => simp at e; subst e; exact ⟨_, by simp, h1⟩
  | d' :: ds, _, i + 1, d, h, e => by
    cases h with
    | cons h1 h2 =>
      obtain ⟨v, e1, r⟩ := dpa_get h2 (by simpa using e)
      exact ⟨v, by simpa using e1, r⟩
theorem dpa_getV {G : Hp} : ∀ {ds : List PyData} {vs : List V} {i : Nat} {v : V}, DtAll K G vs ds → vs[i]? = some v → ∃ d, ds[i]? = some d ∧ Dt K G v d
  | [], _, i, d, h, e => by cases h; simp at e
  | d' :: ds, _, 0, d, h, e => by
    cases h with
    | cons h1 h2 => simp at e; subst e; exact ⟨_, by simp, h1⟩
  | d' :: ds, _, i + 1, d, h, e => by
    cases h with
    | cons h1 h2 =>
      obtain ⟨v, e1, r⟩ := dpa_getV h2 (by simpa using e)
      exact ⟨v, by simpa using e1, r⟩
theorem dpa_app {G : Hp} : ∀ {ds es : List PyData} {vs us : List V}, DtAll K G vs ds → DtAll K G us es → DtAll K G (vs ++ us) (ds ++ es)
  | [], _, _, _, h, g => by cases h; exact g
  | d :: ds, _, _, _, h, g => by
    cases h with
    | cons h1 h2 => exact .cons h1 (dpa_app h2 g)
theorem dpa_take {G : Hp} : ∀ {ds : List PyData} {vs : List V} (n : Nat), DtAll K G vs ds → DtAll K G (vs.take n) (ds.take n)
  | _, _, 0, _ => by simp; exact .nil
  | [], _, n + 1, h => by cases h; exact .nil
  | d :: ds, _, n + 1, h => by
    cases h with
    | cons h1 h2 => exact .cons h1 (dpa_take n h2)
theorem dpa_drop {G : Hp} : ∀ {ds : List PyData} {vs : List V} (n : Nat), DtAll K G vs ds → DtAll K G (vs.drop n) (ds.drop n)
  | _, _, 0, h => h
  | [], _, n + 1, h => by cases h; exact .nil
  | d :: ds, _, n + 1, h => by
    cases h with
    | cons h1 h2 => exact dpa_drop n h2
theorem dpa_erase {G : Hp} : ∀ {ds : List PyData} {vs : List V} (n : Nat), DtAll K G vs ds → DtAll K G (vs.eraseIdx n) (ds.eraseIdx n)
  | [], _, n, h => by cases h; exact .nil
  | d :: ds, _, 0, h => by
    cases h with
    | cons h1 h2 => exact h2
  | d :: ds, _, n + 1, h => by
    cases h with
    | cons h1 h2 => exact .cons h1 (dpa_erase n h2)
theorem dpa_rev {G : Hp} : ∀ {ds : List PyData} {vs : List V}, DtAll K G vs ds → DtAll K G vs.reverse ds.reverse
  | [], _, h => by cases h; exact .nil
  | d :: ds, _, h => by
    cases h with
    | cons h1 h2 =>
      rw [List.reverse_cons, List.reverse_cons]
      exact dpa_app (dpa_rev h2) (.cons h1 .nil)
theorem dpa_set {G : Hp} {v : V} {d : PyData} (r : Dt K G v d) : ∀ {ds : List PyData} {vs : List V} (n : Nat), DtAll K G vs ds → DtAll K G (vs.set n v) (ds.set n d)
  | [], _, n, h => by cases h; exact .nil
  | _ :: ds, _, 0, h => by
    cases h with
    | cons h1 h2 => exact .cons r h2
  | _ :: ds, _, n + 1, h => by
    cases h with
    | cons h1 h2 => exact .cons h1 (dpa_set r n h2)
/-- a list of dints -/
abbrev dints (ns : List Int) : List PyData := ns.map PyData.int
abbrev dI (i : Int) : PyData := .int i
abbrev dB (b : Bool) : PyData := .bool b
abbrev dL (ns : List Int) : PyData := .list (dints ns)
abbrev dLL (nss : List (List Int)) : PyData := .list (nss.map dL)
theorem dpa_ints {G : Hp} : ∀ {ns : List Int} {vs : List V}, DtAll K G vs (dints ns) → vs = ns.map V.int
  | [], _, h => by cases h; rfl
  | n :: ns, _, h => by
    cases h with
    | cons h1 h2 =>
      cases h1
      rw [dpa_ints h2]; rfl
theorem dpAll_ints {G : Hp} : ∀ (ns : List Int), DtAll K G (ns.map V.int) (dints ns)
  | [] => .nil
  | n :: ns => .cons (.int n) (dpAll_ints ns)

mutual
theorem dt_dp {K : PySem.W.Frag} {G H : Hp} (e : Ex G H) : ∀ (d : PyData) (v : V), Dt K G v d → Dp K H v d
  | .none, _, h => by cases h; exact .non
  | .bool b, _, h => by cases h; exact .bl b
  | .int i, _, h => by cases h; exact .int i
  | .str x, _, h => by cases h; exact .str x
  | .list ds, _, h => by
    cases h with
    | lst hs ha => exact .lst (SqL.of (e _ _ hs)) (dtAll_dp e ds _ ha)
  | .tuple ds, _, h => by
    cases h with
    | tup hs ha => exact .tup (ex_t e hs) (dtAll_dp e ds _ ha)
  | .dict _, _, h => by cases h
theorem dtAll_dp {K : PySem.W.Frag} {G H : Hp} (e : Ex G H) : ∀ (ds : List PyData) (vs : List V), DtAll K G vs ds → DpAll K H vs ds
  | [], _, h => by cases h; exact .nil
  | d :: ds, _, h => by
    cases h with
    | cons h1 h2 => exact .cons (dt_dp e d _ h1) (dtAll_dp e ds _ h2)
end
structure Wo where
  K : PySem.W.Frag
  T : List Addr
  pu : Option (Addr × Addr)
  L : Nat := 0
def Wo.U (W : Wo) (a : Addr) : Prop := a ∈ W.T ∨ ∃ p, W.pu = some p ∧ (a = p.1 ∨ a = p.2)
def Sta (W : Wo) (G H : Hp) : Prop := ∀ a o, G a = some o → ¬ W.U a ∧ H a = some o
structure Gr (W : Wo) (G H G' H' : Hp) : Prop where
  ex : Ex G G'
  sta : Sta W G' H'
  fr : ∀ a o, ¬ W.U a → H a = some o → H' a = some o
  nw : ∀ a, G' a ≠ none → G a ≠ none ∨ H a = none
theorem Gr.refl {W : Wo} {G H : Hp} (s : Sta W G H) : Gr W G H G H := ⟨Ex.refl _, s, fun _ _ _ h => h, fun _ h => .inl h⟩
theorem none_of_fr {W : Wo} {H H' : Hp} {a : Addr} (fr : ∀ a o, ¬ W.U a → H a = some o → H' a = some o) (u : ¬ W.U a) (h : H' a = none) : H a = none := by
  cases e : H a with
  | none => rfl
  | some o => rw [fr a o u e] at h; cases h
theorem Gr.trans {W : Wo} {G H G1 H1 G2 H2 : Hp} (a : Gr W G H G1 H1) (b : Gr W G1 H1 G2 H2) : Gr W G H G2 H2 := by
  refine ⟨a.ex.trans b.ex, b.sta, fun x o u h => b.fr x o u (a.fr x o u h), fun x h => ?_⟩
  have u : ¬ W.U x := by
    cases e : G2 x with
    | none => exact absurd e h
    | some o => exact (b.sta x o e).1
  rcases b.nw x h with h1 | h1
  · exact a.nw x h1
  · exact .inr (none_of_fr a.fr u h1)
/-- a new stable object -/
theorem Gr.new {W : Wo} {G H G1 H1 : Hp} (a : Gr W G H G1 H1) {p : Addr} {o : HO} (h : H1 p = none) (u : ¬ W.U p) : Gr W G H (upd G1 p o) (upd H1 p o) := by
  have hG : G1 p = none := by
    cases e : G1 p with
    | none => rfl
    | some o' => rw [(a.sta p o' e).2] at h; cases h
  refine a.trans ⟨Ex.new hG, fun x o' e => ?_, fun x o' _ e => Ex.new h x o' e, fun x e => ?_⟩
  · by_cases hx : x = p
    · subst hx; rw [upd_same] at e ⊢; exact ⟨u, e⟩
    · rw [upd_ne hx] at e ⊢; exact a.sta x o' e
  · by_cases hx : x = p
    · subst hx; exact .inr h
    · rw [upd_ne hx] at e; exact .inl e

def Purse (W : Wo) (n : Nat) (H : Hp) : Prop := ∀ p, W.pu = some p → p.1 ≠ p.2 ∧ ∃ (cells : List Int) (t : Nat), H p.1 = some (.lst [.ref p.2, .int t]) ∧ H p.2 = some (.lst (cells.map V.int)) ∧
  cells.length = W.L ∧ cells.length ≤ 63 ∧ (∀ c ∈ cells, c.natAbs < 2 ^ 4000) ∧ t ≤ n
def WI (W : Wo) (n : Nat) (H : Hp) : Prop := (∀ p ∈ W.T, GxR.TabG H p) ∧ Purse W n H
theorem WI.there {W : Wo} {n : Nat} {H : Hp} (w : WI W n H) {a : Addr} (u : W.U a) : H a ≠ none := by
  rcases u with h | ⟨p, e, h⟩
  · obtain ⟨ps, e, _⟩ := w.1 a h
    rw [e]; simp
  · obtain ⟨_, cells, t, e1, e2, _⟩ := w.2 p e
    rcases h with h | h
    · rw [h, e1]; simp
    · rw [h, e2]; simp
theorem WI.fresh {W : Wo} {n : Nat} {H : Hp} (w : WI W n H) {a : Addr} (h : H a = none) : ¬ W.U a := fun u => w.there u h
theorem WI.of_eq {W : Wo} {n : Nat} {H H' : Hp} (w : WI W n H) (h : ∀ a, W.U a → H' a = H a) : WI W n H' := by
  refine ⟨fun p hp => ?_, fun p hp => ?_⟩
  · obtain ⟨ps, e, t⟩ := w.1 p hp
    exact ⟨ps, by rw [h p (.inl hp)]; exact e, t⟩
  · obtain ⟨ne, cells, t, e1, e2, r⟩ := w.2 p hp
    exact ⟨ne, cells, t, by rw [h _ (.inr ⟨p, hp, .inl rfl⟩)]; exact e1, by rw [h _ (.inr ⟨p, hp, .inr rfl⟩)]; exact e2, r⟩
theorem WI.upd {W : Wo} {n : Nat} {H : Hp} (w : WI W n H) {p : Addr} {o : HO} (u : ¬ W.U p) : WI W n (upd H p o) :=
  w.of_eq fun a ha => upd_ne fun e => u (e ▸ ha)
theorem WI.mono {W : Wo} {n m : Nat} {H : Hp} (w : WI W n H) (h : n ≤ m) : WI W m H :=
  ⟨w.1, fun p e => let ⟨ne, c, t, a, b, c1, c2, c3, c4⟩ := w.2 p e; ⟨ne, c, t, a, b, c1, c2, c3, Nat.le_trans c4 h⟩⟩

/-! ### abstract values, slots, states -/
inductive Av where
  | d (x : PyData)
  | pu
  | pc
  | dc (kvs : List (Int × Int))
  | sc (ns : List Int)
  | ex (D : Addr) (nm : Str)
abbrev aI (i : Int) : Av := .d (.int i)
abbrev aB (b : Bool) : Av := .d (.bool b)
abbrev aL (ns : List Int) : Av := .d (dL ns)
abbrev aLL (nss : List (List Int)) : Av := .d (dLL nss)
abbrev aN : Av := .d .none
def dcV (kvs : List (Int × Int)) : List (Key × V) := kvs.map fun q => ((Sum.inl q.1 : Key), V.int q.2)
def Rv (W : Wo) (G : Hp) (v : V) : Av → Prop
  | .d x => Dt W.K G v x
  | .pu => ∃ p, W.pu = some p ∧ v = .ref p.1
  | .pc => ∃ p, W.pu = some p ∧ v = .ref p.2
  | .dc kvs => ∃ a, v = .ref a ∧ G a = some (.dK (dcV kvs))
  | .sc ns => ∃ a, v = .ref a ∧ SqL W.K G a (ns.map V.int)
  | .ex D _ => ∃ a, v = .ref a ∧ G a = some (EK (.ref D) none a)
theorem Rv.ex {W : Wo} {G G' : Hp} {v : V} {x : Av} (r : Rv W G v x) (e : Ex G G') : Rv W G' v x := by
  cases x with
  | d x => exact dp_ex e x v r
  | pu => exact r
  | pc => exact r
  | dc kvs => obtain ⟨a, r1, r2⟩ := r; exact ⟨a, r1, e a _ r2⟩
  | sc ns => obtain ⟨a, r1, r2⟩ := r; exact ⟨a, r1, ex_l e r2⟩
  | ex D _ => obtain ⟨a, r1, r2⟩ := r; exact ⟨a, r1, e a _ r2⟩
theorem Rv.int {W : Wo} {G : Hp} {v : V} {i : Int} (r : Rv W G v (aI i)) : v = .int i := by
  have r : Dt W.K G v (.int i) := r
  cases r; rfl
theorem Rv.bool {W : Wo} {G : Hp} {v : V} {b : Bool} (r : Rv W G v (aB b)) : v = .bl b := by
  have r : Dt W.K G v (.bool b) := r
  cases r; rfl
theorem Rv.none {W : Wo} {G : Hp} {v : V} (r : Rv W G v aN) : v = .non := by
  have r : Dt W.K G v .none := r
  cases r; rfl
theorem Rv.str {W : Wo} {G : Hp} {v : V} {z : Str} (r : Rv W G v (.d (.str z))) : v = .str z := by
  have r : Dt W.K G v (.str z) := r
  cases r; rfl
theorem Rv.list {W : Wo} {G : Hp} {v : V} {ds : List PyData} (r : Rv W G v (.d (.list ds))) : ∃ a xs, v = .ref a ∧ G a = some (.lst xs) ∧ DtAll W.K G xs ds := by
  have r : Dt W.K G v (.list ds) := r
  cases r with
  | lst h1 h2 => exact ⟨_, _, rfl, h1, h2⟩
theorem Rv.tuple {W : Wo} {G : Hp} {v : V} {ds : List PyData} (r : Rv W G v (.d (.tuple ds))) : ∃ a xs, v = .ref a ∧ SqT W.K G a xs ∧ DtAll W.K G xs ds := by
  have r : Dt W.K G v (.tuple ds) := r
  cases r with
  | tup h1 h2 => exact ⟨_, _, rfl, h1, h2⟩
theorem rv_int {W : Wo} {G : Hp} (i : Int) : Rv W G (.int i) (aI i) := Dt.int i
theorem rv_bool {W : Wo} {G : Hp} (b : Bool) : Rv W G (.bl b) (aB b) := Dt.bl b
theorem rv_none {W : Wo} {G : Hp} : Rv W G .non aN := Dt.non
theorem rv_str {W : Wo} {G : Hp} (z : Str) : Rv W G (.str z) (.d (.str z)) := Dt.str z

inductive Sl where
  | no
  | st (x : Av)
  | ow (ds : List PyData)

abbrev Pv := List (Addr × HO)
structure As (W : Wo) (G0 H0 : Hp) (pv : Pv) (σ : L2.St) (G H : Hp) (τ : List Sl) (n : Nat) : Prop where
  gr : Gr W G0 H0 G H
  wi : WI W n H
  len : σ.length = τ.length
  st : ∀ (i : Nat) x, τ[i]? = some (.st x) → ∃ v, σ[i]? = some (some v) ∧ Rv W G v x
  ow : ∀ (i : Nat) ds, τ[i]? = some (.ow ds) → ∃ a xs, σ[i]? = some (some (.ref a)) ∧ H a = some (.lst xs) ∧ DtAll W.K G xs ds ∧ G a = none ∧ ¬ W.U a ∧ H0 a = none
  sep : ∀ (i j : Nat) a ds es, i ≠ j → τ[i]? = some (.ow ds) → τ[j]? = some (.ow es) → σ[i]? = some (some (.ref a)) → σ[j]? = some (some (.ref a)) → False
  pr : ∀ p ∈ pv, H p.1 = some p.2 ∧ G p.1 = none ∧ ¬ W.U p.1 ∧ H0 p.1 = none ∧ ∀ (i : Nat) ds, τ[i]? = some (.ow ds) → σ[i]? ≠ some (some (.ref p.1))
section
variable {W : Wo} {G0 H0 : Hp} {pv : Pv} {σ : L2.St} {G H G' H' : Hp} {τ : List Sl} {n n' : Nat}
theorem As.nopv (A : As W G0 H0 pv σ G H τ n) : As W G0 H0 [] σ G H τ n := ⟨A.gr, A.wi, A.len, A.st, A.ow, A.sep, fun p hp => absurd hp (by simp)⟩
theorem As.sta (A : As W G0 H0 pv σ G H τ n) : Sta W G H := A.gr.sta
theorem set_some {α : Type} {l : List α} {i j : Nat} {x y : α} (h : (l.set i x)[j]? = some y) : (i = j ∧ y = x ∧ i < l.length) ∨ (i ≠ j ∧ l[j]? = some y) := by
  by_cases hj : i = j
  · subst hj
    have hi : i < l.length := by
      have := (List.getElem?_eq_some_iff.mp h).1
      simpa using this
    rw [List.getElem?_set_self hi] at h
    exact .inl ⟨rfl, (Option.some.inj h).symm, hi⟩
  · rw [List.getElem?_set_ne hj] at h
    exact .inr ⟨hj, h⟩
/-- the heaps grow -/
theorem As.grow (A : As W G0 H0 pv σ G H τ n) (g : Gr W G H G' H') (w : WI W n' H') : As W G0 H0 pv σ G' H' τ n' := by
  have nG : ∀ a, G a = none → H a ≠ none → G' a = none := fun a e3 e2 => by
    cases q : G' a with
    | none => rfl
    | some o =>
      rcases g.nw a (by rw [q]; simp) with h | h
      · exact absurd e3 h
      · exact absurd h e2
  refine ⟨A.gr.trans g, w, A.len, fun i x e => ?_, fun i ds e => ?_, A.sep, fun p hp => ?_⟩
  · obtain ⟨v, e1, r⟩ := A.st i x e
    exact ⟨v, e1, r.ex g.ex⟩
  · obtain ⟨a, xs, e1, e2, r, e3, u, e4⟩ := A.ow i ds e
    exact ⟨a, xs, e1, g.fr a _ u e2, dpAll_ex g.ex ds xs r, nG a e3 (by rw [e2]; simp), u, e4⟩
  · obtain ⟨e1, e2, e3, e4, e5⟩ := A.pr p hp
    exact ⟨g.fr _ _ e3 e1, nG _ e2 (by rw [e1]; simp), e3, e4, e5⟩
theorem As.new (A : As W G0 H0 pv σ G H τ n) {p : Addr} {o : HO} (h : H p = none) : As W G0 H0 pv σ (upd G p o) (upd H p o) τ n :=
  A.grow ((Gr.refl A.gr.sta).new h (A.wi.fresh h)) (A.wi.upd (A.wi.fresh h))
theorem As.freshG (A : As W G0 H0 pv σ G H τ n) {p : Addr} (h : H p = none) : G p = none := by
  cases e : G p with
  | none => rfl
  | some o' => rw [(A.gr.sta p o' e).2] at h; cases h
theorem As.fresh0 (A : As W G0 H0 pv σ G H τ n) {p : Addr} (h : H p = none) : H0 p = none := none_of_fr A.gr.fr (A.wi.fresh h) h
/-- a new private object -/
theorem As.priv (A : As W G0 H0 pv σ G H τ n) {p : Addr} {o : HO} (h : H p = none) : As W G0 H0 ((p, o) :: pv) σ G (upd H p o) τ n := by
  have u := A.wi.fresh h
  have hG := A.freshG h
  have k : ∀ a q, H a = some q → upd H p o a = some q := fun a q e => Ex.new h a q e
  refine ⟨⟨A.gr.ex, fun a q e => ⟨(A.gr.sta a q e).1, k a q (A.gr.sta a q e).2⟩, fun a q ua e => k a q (A.gr.fr a q ua e), A.gr.nw⟩, A.wi.upd u, A.len, A.st, fun i ds e => ?_, A.sep, fun q hq => ?_⟩
  · obtain ⟨a, xs, e1, e2, r, e3, u2, e4⟩ := A.ow i ds e
    exact ⟨a, xs, e1, k a _ e2, r, e3, u2, e4⟩
  · rcases List.mem_cons.mp hq with rfl | hq
    · refine ⟨upd_same, hG, u, A.fresh0 h, fun i ds e z => ?_⟩
      obtain ⟨a, xs, e1, e2, _⟩ := A.ow i ds e
      rw [e1] at z
      cases z
      rw [h] at e2; cases e2
    · obtain ⟨e1, e2, e3, e4, e5⟩ := A.pr q hq
      exact ⟨k _ _ e1, e2, e3, e4, e5⟩
/-- a private object changes -/
theorem As.privSet {p : Addr} {o o' : HO} (A : As W G0 H0 ((p, o) :: pv) σ G H τ n) (nd : ∀ q ∈ pv, q.1 ≠ p) : As W G0 H0 ((p, o') :: pv) σ G (upd H p o') τ n := by
  obtain ⟨h1, h2, h3, h4, h5⟩ := A.pr (p, o) List.mem_cons_self
  refine ⟨⟨A.gr.ex, fun a q e => ⟨(A.gr.sta a q e).1, ?_⟩, fun a q ua e => ?_, A.gr.nw⟩, A.wi.upd h3, A.len, A.st, fun i ds e => ?_, A.sep, fun q hq => ?_⟩
  · have : a ≠ p := fun z => by rw [z, h2] at e; cases e
    rw [upd_ne this]; exact (A.gr.sta a q e).2
  · have : a ≠ p := fun z => by rw [z, h4] at e; cases e
    rw [upd_ne this]; exact A.gr.fr a q ua e
  · obtain ⟨a, xs, e1, e2, r, e3, u2, e4⟩ := A.ow i ds e
    have : a ≠ p := fun z => h5 i ds e (by rw [e1, z])
    exact ⟨a, xs, e1, by rw [upd_ne this]; exact e2, r, e3, u2, e4⟩
  · rcases List.mem_cons.mp hq with rfl | hq
    · exact ⟨upd_same, h2, h3, h4, h5⟩
    · obtain ⟨e1, e2, e3, e4, e5⟩ := A.pr q (List.mem_cons_of_mem _ hq)
      exact ⟨by rw [upd_ne (nd q hq)]; exact e1, e2, e3, e4, e5⟩
/-- a private object is given out, stable -/
theorem As.privOut {p : Addr} {o : HO} (A : As W G0 H0 ((p, o) :: pv) σ G H τ n) (nd : ∀ q ∈ pv, q.1 ≠ p) : As W G0 H0 pv σ (upd G p o) H τ n := by
  obtain ⟨h1, h2, h3, h4, h5⟩ := A.pr (p, o) List.mem_cons_self
  have ex : Ex G (upd G p o) := Ex.new h2
  refine ⟨⟨A.gr.ex.trans ex, fun b q e => ?_, A.gr.fr, fun b e => ?_⟩, A.wi, A.len, fun j y e => ?_, fun j es e => ?_, A.sep, fun q hq => ?_⟩
  · by_cases hb : b = p
    · subst hb; rw [upd_same] at e; cases e; exact ⟨h3, h1⟩
    · rw [upd_ne hb] at e; exact A.gr.sta b q e
  · by_cases hb : b = p
    · subst hb; exact .inr h4
    · rw [upd_ne hb] at e; exact A.gr.nw b e
  · obtain ⟨v, q1, q2⟩ := A.st j y e
    exact ⟨v, q1, q2.ex ex⟩
  · obtain ⟨b, zs, q1, q2, q3, q4, q5, q6⟩ := A.ow j es e
    have : b ≠ p := fun z => h5 j es e (by rw [q1, z])
    exact ⟨b, zs, q1, q2, dpAll_ex ex _ _ q3, by rw [upd_ne this]; exact q4, q5, q6⟩
  · obtain ⟨e1, e2, e3, e4, e5⟩ := A.pr q (List.mem_cons_of_mem _ hq)
    exact ⟨e1, by rw [upd_ne (nd q hq)]; exact e2, e3, e4, e5⟩
theorem As.privNe (A : As W G0 H0 pv σ G H τ n) {p : Addr} (h : H p = none) : ∀ q ∈ pv, q.1 ≠ p := fun q hq z => by
  obtain ⟨e1, _⟩ := A.pr q hq
  rw [z, h] at e1; cases e1
/-- a slot gets a stable value -/
theorem As.put (A : As W G0 H0 pv σ G H τ n) (i : Nat) {v : V} {x : Av} (r : Rv W G v x) : As W G0 H0 pv (σ.set i (some v)) G H (τ.set i (.st x)) n := by
  have back : ∀ (j : Nat) ds, (τ.set i (.st x))[j]? = some (.ow ds) → i ≠ j ∧ τ[j]? = some (.ow ds) := fun j ds e => by
    rcases set_some e with ⟨_, q, _⟩ | ⟨q1, q2⟩
    · cases q
    · exact ⟨q1, q2⟩
  refine ⟨A.gr, A.wi, by simp [A.len], fun j y e => ?_, fun j ds e => ?_, fun j k a ds es hjk e1 e2 h1 h2 => ?_, fun p hp => ?_⟩
  · rcases set_some e with ⟨rfl, q, hi⟩ | ⟨hj, q⟩
    · cases q
      exact ⟨v, List.getElem?_set_self (by rw [A.len]; exact hi), r⟩
    · rw [List.getElem?_set_ne hj]
      exact A.st j y q
  · obtain ⟨hj, q⟩ := back j ds e
    rw [List.getElem?_set_ne hj]
    exact A.ow j ds q
  · obtain ⟨nj, q1⟩ := back j ds e1
    obtain ⟨nk, q2⟩ := back k es e2
    rw [List.getElem?_set_ne nj] at h1
    rw [List.getElem?_set_ne nk] at h2
    exact A.sep j k a ds es hjk q1 q2 h1 h2
  · obtain ⟨e1, e2, e3, e4, e5⟩ := A.pr p hp
    refine ⟨e1, e2, e3, e4, fun j ds e => ?_⟩
    obtain ⟨hj, q⟩ := back j ds e
    rw [List.getElem?_set_ne hj]
    exact e5 j ds q
/-- a slot is forgotten -/
theorem As.drop (A : As W G0 H0 pv σ G H τ n) (i : Nat) (o : Option V) : As W G0 H0 pv (σ.set i o) G H (τ.set i .no) n := by
  have back : ∀ (j : Nat) s, (τ.set i .no)[j]? = some s → s ≠ .no → i ≠ j ∧ τ[j]? = some s := fun j s e ne => by
    rcases set_some e with ⟨_, q, _⟩ | ⟨q1, q2⟩
    · exact absurd q ne
    · exact ⟨q1, q2⟩
  refine ⟨A.gr, A.wi, by simp [A.len], fun j y e => ?_, fun j ds e => ?_, fun j k a ds es hjk e1 e2 h1 h2 => ?_, fun p hp => ?_⟩
  · obtain ⟨hj, q⟩ := back j _ e (fun z => nomatch z)
    rw [List.getElem?_set_ne hj]
    exact A.st j y q
  · obtain ⟨hj, q⟩ := back j _ e (fun z => nomatch z)
    rw [List.getElem?_set_ne hj]
    exact A.ow j ds q
  · obtain ⟨nj, q1⟩ := back j _ e1 (fun z => nomatch z)
    obtain ⟨nk, q2⟩ := back k _ e2 (fun z => nomatch z)
    rw [List.getElem?_set_ne nj] at h1
    rw [List.getElem?_set_ne nk] at h2
    exact A.sep j k a ds es hjk q1 q2 h1 h2
  · obtain ⟨e1, e2, e3, e4, e5⟩ := A.pr p hp
    refine ⟨e1, e2, e3, e4, fun j ds e => ?_⟩
    obtain ⟨hj, q⟩ := back j _ e (fun z => nomatch z)
    rw [List.getElem?_set_ne hj]
    exact e5 j ds q
/-- a slot gets an own list, new -/
theorem As.putOw (A : As W G0 H0 pv σ G H τ n) (i : Nat) {p : Addr} {xs : List V} {ds : List PyData} (h : H p = none) (r : DtAll W.K G xs ds) : As W G0 H0 pv (σ.set i (some (.ref p))) G (upd H p (.lst xs)) (τ.set i (.ow ds)) n := by
  have A1 := A.priv (o := .lst xs) h
  obtain ⟨g1, g2, g3, g4, g5⟩ := A1.pr (p, .lst xs) List.mem_cons_self
  refine ⟨A1.gr, A1.wi, by simp [A.len], fun j y e => ?_, fun j es e => ?_, fun j k a es fs hjk e1 e2 h1 h2 => ?_, fun q hq => ?_⟩
  · rcases set_some e with ⟨_, q, _⟩ | ⟨hj, q⟩
    · cases q
    · rw [List.getElem?_set_ne hj]
      exact A1.st j y q
  · rcases set_some e with ⟨rfl, q, hi⟩ | ⟨hj, q⟩
    · cases q
      exact ⟨p, xs, List.getElem?_set_self (by rw [A.len]; exact hi), g1, r, g2, g3, g4⟩
    · rw [List.getElem?_set_ne hj]
      exact A1.ow j es q
  · rcases set_some e1 with ⟨rfl, q, hi⟩ | ⟨hj, q⟩
    · rcases set_some e2 with ⟨rfl, _⟩ | ⟨hk, q2⟩
      · exact hjk rfl
      · rw [List.getElem?_set_self (by rw [A.len]; exact hi)] at h1
        cases h1
        rw [List.getElem?_set_ne hk] at h2
        exact g5 k fs q2 h2
    · rcases set_some e2 with ⟨rfl, q2, hi⟩ | ⟨hk, q2⟩
      · rw [List.getElem?_set_self (by rw [A.len]; exact hi)] at h2
        cases h2
        rw [List.getElem?_set_ne hj] at h1
        exact g5 j es q h1
      · rw [List.getElem?_set_ne hj] at h1
        rw [List.getElem?_set_ne hk] at h2
        exact A.sep j k a es fs hjk q q2 h1 h2
  · obtain ⟨e1, e2, e3, e4, e5⟩ := A1.pr q (List.mem_cons_of_mem _ hq)
    refine ⟨e1, e2, e3, e4, fun j es e => ?_⟩
    rcases set_some e with ⟨rfl, _, hi⟩ | ⟨hj, z⟩
    · rw [List.getElem?_set_self (by rw [A.len]; exact hi)]
      intro z
      cases z
      exact A.privNe h q hq rfl
    · rw [List.getElem?_set_ne hj]
      exact e5 j es z
/-- an own list changes -/
theorem As.mut (A : As W G0 H0 pv σ G H τ n) {i : Nat} {ds ds' : List PyData} {xs' : List V} {a : Addr} (hi : τ[i]? = some (.ow ds)) (ha : σ[i]? = some (some (.ref a))) (r : DtAll W.K G xs' ds') :
    As W G0 H0 pv σ G (upd H a (.lst xs')) (τ.set i (.ow ds')) n := by
  obtain ⟨a', ys, e1, e2, r2, e3, u, e4⟩ := A.ow i ds hi
  have : a' = a := by rw [ha] at e1; cases e1; rfl
  subst this
  have ne : ∀ b, b ≠ a' → upd H a' (.lst xs') b = H b := fun b h => upd_ne h
  have back : ∀ (m : Nat) zs, (τ.set i (.ow ds'))[m]? = some (.ow zs) → ∃ ws, τ[m]? = some (.ow ws) := fun m zs q => by
    rcases set_some q with ⟨rfl, _⟩ | ⟨_, q⟩
    · exact ⟨ds, hi⟩
    · exact ⟨zs, q⟩
  refine ⟨⟨A.gr.ex, fun b o e => ?_, fun b o ub e => ?_, A.gr.nw⟩, A.wi.upd u, by simp [A.len], fun j y e => ?_, fun j es e => ?_, fun j k b es fs hjk q1 q2 h1 h2 => ?_, fun p hp => ?_⟩
  · obtain ⟨q1, q2⟩ := A.gr.sta b o e
    exact ⟨q1, by rw [ne b (fun z => by rw [z, e3] at e; cases e)]; exact q2⟩
  · rw [ne b (fun z => by rw [z, e4] at e; cases e)]; exact A.gr.fr b o ub e
  · rcases set_some e with ⟨_, q, _⟩ | ⟨_, q⟩
    · cases q
    · exact A.st j y q
  · rcases set_some e with ⟨rfl, q, _⟩ | ⟨hj, q⟩
    · cases q
      exact ⟨a', xs', ha, upd_same, r, e3, u, e4⟩
    · obtain ⟨b, zs, q1, q2, q3, q4, q5, q6⟩ := A.ow j es q
      refine ⟨b, zs, q1, ?_, q3, q4, q5, q6⟩
      rw [ne b (fun z => A.sep i j a' ds es hj hi q ha (by rw [← z]; exact q1))]
      exact q2
  · obtain ⟨w1, z1⟩ := back j es q1
    obtain ⟨w2, z2⟩ := back k fs q2
    exact A.sep j k b w1 w2 hjk z1 z2 h1 h2
  · obtain ⟨z1, z2, z3, z4, z5⟩ := A.pr p hp
    refine ⟨?_, z2, z3, z4, fun j es e => ?_⟩
    · rw [ne p.1 (fun z => z5 i ds hi (by rw [ha, z]))]; exact z1
    · obtain ⟨w, q⟩ := back j es e
      exact z5 j w q
/-- an own list is own no longer -/
theorem As.freeze (A : As W G0 H0 pv σ G H τ n) {i : Nat} {ds : List PyData} (hi : τ[i]? = some (.ow ds)) : ∃ G', Ex G G' ∧ As W G0 H0 pv σ G' H (τ.set i (.st (.d (.list ds)))) n := by
  obtain ⟨a, xs, e1, e2, r2, e3, u, e4⟩ := A.ow i ds hi
  have ex : Ex G (upd G a (.lst xs)) := Ex.new e3
  have back : ∀ (m : Nat) zs, (τ.set i (.st (.d (.list ds))))[m]? = some (.ow zs) → i ≠ m ∧ τ[m]? = some (.ow zs) := fun m zs q => by
    rcases set_some q with ⟨_, q, _⟩ | ⟨q1, q⟩
    · cases q
    · exact ⟨q1, q⟩
  refine ⟨upd G a (.lst xs), ex, ⟨A.gr.ex.trans ex, fun b o e => ?_, A.gr.fr, fun b e => ?_⟩, A.wi, by simp [A.len], fun j y e => ?_, fun j es e => ?_, fun j k b es fs hjk q1 q2 h1 h2 => ?_, fun p hp => ?_⟩
  · by_cases hb : b = a
    · subst hb; rw [upd_same] at e; cases e; exact ⟨u, e2⟩
    · rw [upd_ne hb] at e; exact A.gr.sta b o e
  · by_cases hb : b = a
    · subst hb; exact .inr e4
    · rw [upd_ne hb] at e; exact A.gr.nw b e
  · rcases set_some e with ⟨rfl, q, _⟩ | ⟨hj, q⟩
    · cases q
      exact ⟨.ref a, e1, Dt.lst upd_same (dpAll_ex ex _ _ r2)⟩
    · obtain ⟨v, q1, q2⟩ := A.st j y q
      exact ⟨v, q1, q2.ex ex⟩
  · obtain ⟨hj, q⟩ := back j es e
    obtain ⟨b, zs, q1, q2, q3, q4, q5, q6⟩ := A.ow j es q
    refine ⟨b, zs, q1, q2, dpAll_ex ex _ _ q3, ?_, q5, q6⟩
    rw [upd_ne (show b ≠ a from fun z => A.sep i j a ds es hj hi q e1 (by rw [← z]; exact q1))]
    exact q4
  · exact A.sep j k b es fs hjk (back j es q1).2 (back k fs q2).2 h1 h2
  · obtain ⟨z1, z2, z3, z4, z5⟩ := A.pr p hp
    refine ⟨z1, ?_, z3, z4, fun j es e => z5 j es (back j es e).2⟩
    rw [upd_ne (show p.1 ≠ a from fun z => z5 i ds hi (by rw [e1, z]))]
    exact z2
end

structure Cn where
  X : Cx
  W : Wo
  G0 : Hp
  H0 : Hp
  E : Addr → List Sl → Nat → Prop
abbrev Cn.WK (C : Cn) : Wo := { C.W with K := C.X.K }
abbrev Cn.As (C : Cn) := M.As C.WK C.G0 C.H0

/-! ### readings of syntax itself -/
def RE (X : Cx) (e : Expr) : TE := fun σ H Q => ∀ (pins : List (Addr × Obj)) (s : Shared), Inv X pins σ H s → wpAny (model X.prog X.w) X.A (eval e X.env) (EP X pins σ Q) X.xe s
def RT (X : Cx) (e : Expr) : TT := fun σ H Q => ∀ (pins : List (Addr × Obj)) (s : Shared), Inv X pins σ H s → wpAny (model X.prog X.w) X.A (isTrue e X.env (eval e X.env)) (TP X pins σ Q) X.xe s
def RW (X : Cx) (e : Expr) : TT := fun σ H Q => ∀ (whole : Sem Value) (pins : List (Addr × Obj)) (s : Shared), Inv X pins σ H s → wpAny (model X.prog X.w) X.A (isTrue e X.env whole) (TP X pins σ Q) X.xe s
def RA (X : Cx) (es : List Expr) : TA := fun σ H Q => ∀ (pos : Pos) (pins : List (Addr × Obj)) (s : Shared), Inv X pins σ H s → wpAny (model X.prog X.w) X.A (spliced (backTo pos (starEach es X.env))) (AP X pins σ Q) X.xe s
def RS (X : Cx) (st : Stmt) : TS := fun D σ H => ∀ (pins : List (Addr × Obj)) (s : Shared), Inv X pins σ H s → wpAny (model X.prog X.w) X.A (exec st X.env) (SP X pins D) X.xe s
def RSs (X : Cx) (st : List Stmt) : TS := fun D σ H => ∀ (pins : List (Addr × Obj)) (s : Shared), Inv X pins σ H s → wpAny (model X.prog X.w) X.A (execs st X.env) (SP X pins D) X.xe s
theorem pe_re {X : Cx} {e : Expr} : PE X e (RE X e) := ⟨fun pins s σ H Q I h => h pins s I⟩
theorem pt_rt {X : Cx} {e : Expr} : PT X e (RT X e) := ⟨fun pins s σ H Q I h => h pins s I⟩
theorem pw_rw {X : Cx} {e : Expr} : PW X e (RW X e) := ⟨fun wh pins s σ H Q I h => h wh pins s I⟩
theorem pa_ra {X : Cx} {es : List Expr} : PA X es (RA X es) := ⟨fun pos pins s σ H Q I h => h pos pins s I⟩
theorem ps_rs {X : Cx} {st : Stmt} : PS X st (RS X st) := ⟨fun pins s σ H D I h => h pins s I⟩
theorem pss_rs {X : Cx} {st : List Stmt} : PSs X st (RSs X st) := ⟨fun pins s σ H D I h => h pins s I⟩
theorem re_of {X : Cx} {e : Expr} {t : TE} (h : PE X e t) {σ : L2.St} {H : Hp} {Q : VK} (q : t σ H Q) : RE X e σ H Q := fun pins s I => h.run pins s σ H Q I q
theorem rt_of {X : Cx} {e : Expr} {t : TT} (h : PT X e t) {σ : L2.St} {H : Hp} {Q : Bool → Hp → Prop} (q : t σ H Q) : RT X e σ H Q := fun pins s I => h.run pins s σ H Q I q
theorem rw_of {X : Cx} {e : Expr} {t : TT} (h : PW X e t) {σ : L2.St} {H : Hp} {Q : Bool → Hp → Prop} (q : t σ H Q) : RW X e σ H Q := fun wh pins s I => h.run wh pins s σ H Q I q
theorem ra_of {X : Cx} {e : List Expr} {t : TA} (h : PA X e t) {σ : L2.St} {H : Hp} {Q : List V → Hp → Prop} (q : t σ H Q) : RA X e σ H Q := fun pos pins s I => h.run pos pins s σ H Q I q
theorem rs_of {X : Cx} {e : Stmt} {t : TS} (h : PS X e t) {σ : L2.St} {H : Hp} {D : Ends} (q : t D σ H) : RS X e D σ H := fun pins s I => h.run pins s σ H D I q
theorem rss_of {X : Cx} {e : List Stmt} {t : TS} (h : PSs X e t) {σ : L2.St} {H : Hp} {D : Ends} (q : t D σ H) : RSs X e D σ H := fun pins s I => h.run pins s σ H D I q

/-! ### the judgements -/
section
variable (C : Cn)
def EX (τ : List Sl) (n : Nat) (e : Expr) (Q : Av → List Sl → Nat → Prop) : Prop := ∀ pv σ G H (R : VK), C.As pv σ G H τ n →
  (∀ v x G' H' τ' n', C.As pv σ G' H' τ' n' → Ex G G' → Rv C.WK G' v x → Q x τ' n' → R v H') → RE C.X e σ H R
def ET (τ : List Sl) (n : Nat) (e : Expr) (Q : Bool → List Sl → Nat → Prop) : Prop := ∀ pv σ G H (R : Bool → Hp → Prop), C.As pv σ G H τ n →
  (∀ b G' H' τ' n', C.As pv σ G' H' τ' n' → Ex G G' → Q b τ' n' → R b H') → RT C.X e σ H R
/-- a chain of and, or -/
def EW (τ : List Sl) (n : Nat) (e : Expr) (Q : Bool → List Sl → Nat → Prop) : Prop := ∀ pv σ G H (R : Bool → Hp → Prop), C.As pv σ G H τ n →
  (∀ b G' H' τ' n', C.As pv σ G' H' τ' n' → Ex G G' → Q b τ' n' → R b H') → RW C.X e σ H R
inductive RvAll (W : Wo) (G : Hp) : List V → List Av → Prop
  | nil : RvAll W G [] []
  | cons {v vs x xs} : Rv W G v x → RvAll W G vs xs → RvAll W G (v :: vs) (x :: xs)
def EA (τ : List Sl) (n : Nat) (es : List Expr) (Q : List Av → List Sl → Nat → Prop) : Prop := ∀ pv σ G H (R : List V → Hp → Prop), C.As pv σ G H τ n →
  (∀ vs xs G' H' τ' n', C.As pv σ G' H' τ' n' → Ex G G' → RvAll C.WK G' vs xs → Q xs τ' n' → R vs H') → RA C.X es σ H R
structure AE where
  nx : List Sl → Nat → Prop
  rt : Av → Nat → Prop
  bk : List Sl → Nat → Prop := fun _ _ => False
  ct : List Sl → Nat → Prop := fun _ _ => False
  rf : List PyData → Nat → Prop := fun _ _ => False
structure Cor (G : Hp) (D : AE) (Dc : Ends) : Prop where
  nx : ∀ σ G' H τ n, C.As [] σ G' H τ n → Ex G G' → D.nx τ n → Dc.nx σ H
  rt : ∀ v x n G' H, Gr C.WK C.G0 C.H0 G' H → WI C.WK n H → Rv C.WK G' v x → D.rt x n → Dc.rt v H
  bk : ∀ σ G' H τ n, C.As [] σ G' H τ n → Ex G G' → D.bk τ n → Dc.bk σ H
  ct : ∀ σ G' H τ n, C.As [] σ G' H τ n → Ex G G' → D.ct τ n → Dc.ct σ H
  rf : ∀ p us ds n G' H, Gr C.WK C.G0 C.H0 G' H → WI C.WK n H → H p = none → DtAll C.X.K G' us ds → D.rf ds n → Dc.rt (.ref p) (upd H p (.lst us))
def SX (τ : List Sl) (n : Nat) (st : Stmt) (D : AE) : Prop := ∀ σ G H Dc, C.As [] σ G H τ n → Cor C G D Dc → RS C.X st Dc σ H
def SXs (τ : List Sl) (n : Nat) (st : List Stmt) (D : AE) : Prop := ∀ σ G H Dc, C.As [] σ G H τ n → Cor C G D Dc → RSs C.X st Dc σ H
end
def Cn.CW (C : Cn) : WX := fun cls d σ H => d = none ∧ ∃ c τ n G, cls = .ref c ∧ C.As [] σ G H τ n ∧ C.E c τ n
structure Cn.Ok (C : Cn) (k : Nat) : Prop where
  hK : C.X.K = C.W.K
  tk : Takes C.X C.CW
  room : Room k C.X.A
  nd : C.X.N.Nodup
  calm : C.X.calm = true
  own : PassesOwn (model C.X.prog C.X.w) C.X.A C.X.env C.X.xe
theorem RvAll.ex {W : Wo} {G G' : Hp} (e : Ex G G') : ∀ {vs : List V} {xs : List Av}, RvAll W G vs xs → RvAll W G' vs xs
  | _, _, .nil => .nil
  | _, _, .cons h t => .cons (h.ex e) (t.ex e)
end M

set_option Elab.async false
set_option linter.all false
set_option maxRecDepth 100000
set_option maxHeartbeats 4000000
namespace M
open PySem PySem.Spec PyProof.Rows L2

theorem As.gh {W : Wo} {G0 H0 : Hp} {pv : Pv} {σ : L2.St} {G H : Hp} {τ : List Sl} {n : Nat} (A : As W G0 H0 pv σ G H τ n) : Ex G H := fun a o h => (A.gr.sta a o h).2
/-- a name that may be read -/
structure Nm (X : Cx) (i : Nat) (x : Str) : Prop where
  hN : X.N[i]? = some x
  hv : Vis X.env.scope x
  hd : (x == ("__debug__" : Str)) = false
  hc : (x == ("__classdict__" : Str)) = false
/-- a name that may be stored -/
structure Lm (X : Cx) (i : Nat) (x : Str) : Prop where
  hN : X.N[i]? = some x
  hl : L2.Loc X.env.scope x
  hf : X.fn x = true ∨ X.env.scope.names.lookup x = some .local
/-- a builtin's name -/
structure Bl (X : Cx) (x : Str) : Prop where
  hg : Gl X x
  hm : X.mg x = none

theorem rv_lst {W : Wo} {G : Hp} {p : Addr} {xs : List V} {ds : List PyData} (h : G p = some (.lst xs)) (d : DtAll W.K G xs ds) : Rv W G (.ref p) (.d (.list ds)) := Dt.lst h d
theorem rv_tup {W : Wo} {G : Hp} {p : Addr} {xs : List V} {ds : List PyData} (h : SqT W.K G p xs) (d : DtAll W.K G xs ds) : Rv W G (.ref p) (.d (.tuple ds)) := Dt.tup h d
def unD : List Av → Option (List PyData)
  | [] => some []
  | .d x :: r => (unD r).map (x :: ·)
  | _ :: _ => none
theorem unD_all {W : Wo} {G : Hp} : ∀ {vs : List V} {xs : List Av} {ds : List PyData}, RvAll W G vs xs → unD xs = some ds → DtAll W.K G vs ds
  | _, _, ds, .nil, h => by simp [unD] at h; subst h; exact .nil
  | _, _, ds, .cons (x := x) r t, h => by
    cases x with
    | d x =>
      simp only [unD, Option.map_eq_some_iff] at h
      obtain ⟨es, h1, rfl⟩ := h
      exact .cons r (unD_all t h1)
    | pu => simp [unD] at h
    | pc => simp [unD] at h
    | dc k => simp [unD] at h
    | sc k => simp [unD] at h
    | ex k _ => simp [unD] at h

section
variable {C : Cn} {τ : List Sl} {n : Nat} {e a b c : Expr} {es : List Expr} {pos : Pos} {Q : Av → List Sl → Nat → Prop} {QT : Bool → List Sl → Nat → Prop}
abbrev KE (C : Cn) (pv : Pv) (σ : L2.St) (G : Hp) (Q : Av → List Sl → Nat → Prop) (R : VK) : Prop := ∀ v x G' H' τ' n', C.As pv σ G' H' τ' n' → Ex G G' → Rv C.WK G' v x → Q x τ' n' → R v H'

theorem EX.imp {Q' : Av → List Sl → Nat → Prop} (h : EX C τ n e Q) (k : ∀ x τ' n', Q x τ' n' → Q' x τ' n') : EX C τ n e Q' := fun pv σ G H R A q =>
  h pv σ G H R A fun v x G' H' τ' n' A' e' r' z => q v x G' H' τ' n' A' e' r' (k x τ' n' z)
theorem ET.imp {Q' : Bool → List Sl → Nat → Prop} (h : ET C τ n e QT) (k : ∀ x τ' n', QT x τ' n' → Q' x τ' n') : ET C τ n e Q' := fun pv σ G H R A q =>
  h pv σ G H R A fun b G' H' τ' n' A' e' z => q b G' H' τ' n' A' e' (k b τ' n' z)
/-! ### names, constants -/
theorem ex_name {i : Nat} {x : Str} {y : Av} (h : Nm C.X i x) (ht : τ[i]? = some (.st y)) (q : Q y τ n) : EX C τ n (.Name x pos) Q := by
  intro pv σ G H R A k
  refine re_of (pe_var h.hN h.hv h.hd h.hc) ?_
  obtain ⟨v, e1, r⟩ := A.st i y ht
  exact ⟨v, e1, k v y G H τ n A (Ex.refl _) r q⟩
theorem ex_int {i : Int} {j} (q : Q (aI i) τ n) : EX C τ n (.Constant (.int i) j pos) Q := fun pv σ G H R A k =>
  re_of pe_int (k _ _ G H τ n A (Ex.refl _) (rv_int i) q)
theorem ex_bool {i : Bool} {j} (q : Q (aB i) τ n) : EX C τ n (.Constant (.bool i) j pos) Q := fun pv σ G H R A k =>
  re_of pe_bl (k _ _ G H τ n A (Ex.refl _) (rv_bool i) q)
theorem ex_none {j} (q : Q aN τ n) : EX C τ n (.Constant .none j pos) Q := fun pv σ G H R A k =>
  re_of pe_non (k _ _ G H τ n A (Ex.refl _) rv_none q)
theorem ex_str {i : Str} {j} (q : Q (.d (.str i)) τ n) : EX C τ n (.Constant (.str i) j pos) Q := fun pv σ G H R A k =>
  re_of pe_str (k _ _ G H τ n A (Ex.refl _) (rv_str i) q)
/-- a constant of the module -/
theorem ex_glob {x : Str} {i : Int} {t : Tok} (hg : Gl C.X x) (hm : C.X.mg x = some (.int i t)) (hd : (x == ("__debug__" : Str)) = false) (q : Q (aI i) τ n) : EX C τ n (.Name x pos) Q := fun pv σ G H R A k =>
  re_of (pe_glob (v := .int i) hg hm ⟨t, rfl⟩ hd) (k _ _ G H τ n A (Ex.refl _) (rv_int i) q)

/-! ### operators -/
def RR (C : Cn) (r : R2) (x y : Av) (τ : List Sl) (n : Nat) (Q : Av → List Sl → Nat → Prop) : Prop := ∀ pv σ G H R v u, C.As pv σ G H τ n → Rv C.WK G v x → Rv C.WK G u y → KE C pv σ G Q R → r v u H R
theorem ex_bin {op : Operator} {r : R2} (ho : OpR C.X (binaryOp op) r) (h : EX C τ n a fun x τ1 n1 => EX C τ1 n1 b fun y τ2 n2 => RR C r x y τ2 n2 Q) : EX C τ n (.BinOp a op b pos) Q := by
  intro pv σ G H R A k
  refine re_of (pe_op ho pe_re pe_re) ?_
  refine h pv σ G H _ A fun v x G1 H1 τ1 n1 A1 e1 r1 h1 => ?_
  refine h1 pv σ G1 H1 _ A1 fun u y G2 H2 τ2 n2 A2 e2 r2 h2 => ?_
  exact h2 pv σ G2 H2 R v u A2 (r1.ex e2) r2 fun v' x' G' H' τ' n' A' e' r' q' => k v' x' G' H' τ' n' A' ((e1.trans e2).trans e') r' q'
theorem ex_cmp {op : CmpOp} {r : R2} (ho : OpR C.X (compareOp op) r) (hm : behindInMarks op b = false) (h : EX C τ n a fun x τ1 n1 => EX C τ1 n1 b fun y τ2 n2 => RR C r x y τ2 n2 Q) : EX C τ n (.Compare a [op] [b] pos) Q := by
  intro pv σ G H R A k
  refine re_of (pe_cmpR ho pe_re pe_re hm) ?_
  refine h pv σ G H _ A fun v x G1 H1 τ1 n1 A1 e1 r1 h1 => ?_
  refine h1 pv σ G1 H1 _ A1 fun u y G2 H2 τ2 n2 A2 e2 r2 h2 => ?_
  exact h2 pv σ G2 H2 R v u A2 (r1.ex e2) r2 fun v' x' G' H' τ' n' A' e' r' q' => k v' x' G' H' τ' n' A' ((e1.trans e2).trans e') r' q'
theorem et_cmp {op : CmpOp} {r : R2} (ho : OpR C.X (compareOp op) r) (hm : behindInMarks op b = false) (h : EX C τ n a fun x τ1 n1 => EX C τ1 n1 b fun y τ2 n2 => RR C r x y τ2 n2 fun z τ3 n3 => ∃ k, z = aB k ∧ QT k τ3 n3) : ET C τ n (.Compare a [op] [b] pos) QT := by
  intro pv σ G H R A k
  refine rt_of (pt_cmpR ho pe_re pe_re hm) ?_
  refine h pv σ G H _ A fun v x G1 H1 τ1 n1 A1 e1 r1 h1 => ?_
  refine h1 pv σ G1 H1 _ A1 fun u y G2 H2 τ2 n2 A2 e2 r2 h2 => ?_
  refine h2 pv σ G2 H2 _ v u A2 (r1.ex e2) r2 fun v' x' G' H' τ' n' A' e' r' q' => ?_
  obtain ⟨kk, rfl, q⟩ := q'
  exact ⟨kk, r'.bool, k kk G' H' τ' n' A' ((e1.trans e2).trans e') q⟩
variable {x y : Av}
theorem rr_I0 {g : Int → Int → Int} (h : ∃ i j, x = aI i ∧ y = aI j ∧ Q (aI (g i j)) τ n) : RR C (rI0 fun i j => .int (g i j)) x y τ n Q := by
  intro pv σ G H R v u A rx ry k
  obtain ⟨i, j, rfl, rfl, q⟩ := h
  exact ⟨i, j, rx.int, ry.int, k _ _ G H τ n A (Ex.refl _) (rv_int _) q⟩
theorem rr_I {cc : Int → Int → Prop} {g : Int → Int → Int} (h : ∃ i j, x = aI i ∧ y = aI j ∧ cc i j ∧ Q (aI (g i j)) τ n) : RR C (rI cc fun i j => .int (g i j)) x y τ n Q := by
  intro pv σ G H R v u A rx ry k
  obtain ⟨i, j, rfl, rfl, hc, q⟩ := h
  exact ⟨i, j, rx.int, ry.int, hc, k _ _ G H τ n A (Ex.refl _) (rv_int _) q⟩
theorem rr_B0 {g : Int → Int → Bool} (h : ∃ i j, x = aI i ∧ y = aI j ∧ Q (aB (g i j)) τ n) : RR C (rI0 fun i j => .bl (g i j)) x y τ n Q := by
  intro pv σ G H R v u A rx ry k
  obtain ⟨i, j, rfl, rfl, q⟩ := h
  exact ⟨i, j, rx.int, ry.int, k _ _ G H τ n A (Ex.refl _) (rv_bool _) q⟩
theorem rr_or {r r' : R2} (h : RR C r x y τ n Q ∨ RR C r' x y τ n Q) : RR C (fun x y H Q => r x y H Q ∨ r' x y H Q) x y τ n Q := fun pv σ G H R v u A rx ry k =>
  h.elim (fun q => .inl (q pv σ G H R v u A rx ry k)) fun q => .inr (q pv σ G H R v u A rx ry k)
theorem rr_cat (h : ∃ ds es, x = .d (.list ds) ∧ y = .d (.list es) ∧ ds.length + es.length ≤ sizeLine ∧ Q (.d (.list (ds ++ es))) τ n) : RR C rCat x y τ n Q := by
  intro pv σ G H R v u A rx ry k
  obtain ⟨ds, es, rfl, rfl, hz, q⟩ := h
  obtain ⟨l, xs, rfl, h1, d1⟩ := rx.list
  obtain ⟨m, ys, rfl, h2, d2⟩ := ry.list
  refine ⟨l, m, xs, ys, rfl, rfl, A.gh _ _ h1, A.gh _ _ h2, by rw [dpa_len d1, dpa_len d2]; exact hz, fun p hp => ?_⟩
  have ex : Ex G (upd G p (.lst (xs ++ ys))) := Ex.new (A.freshG hp)
  exact k _ _ _ _ τ n (A.new hp) ex (rv_lst upd_same (dpAll_ex ex _ _ (dpa_app d1 d2))) q
theorem rr_rep (h : ∃ (ds : List PyData) (k : Int), x = .d (.list ds) ∧ y = aI k ∧ -(2 ^ 63) ≤ k ∧ k < 2 ^ 63 ∧ ds.length * k.toNat ≤ sizeLine ∧ Q (.d (.list (List.replicate k.toNat ds).flatten)) τ n) : RR C rRep x y τ n Q := by
  intro pv σ G H R v u A rx ry k
  obtain ⟨ds, kk, rfl, rfl, b1, b2, hz, q⟩ := h
  obtain ⟨l, xs, rfl, h1, d1⟩ := rx.list
  refine ⟨l, kk, xs, rfl, ry.int, A.gh _ _ h1, b1, b2, by rw [dpa_len d1]; exact hz, fun p hp => ?_⟩
  have ex : Ex G (upd G p (.lst (List.replicate kk.toNat xs).flatten)) := Ex.new (A.freshG hp)
  have d2 : ∀ m : Nat, DtAll C.X.K G (List.replicate m xs).flatten (List.replicate m ds).flatten := fun m => by
    induction m with
    | zero => exact .nil
    | succ m ih => rw [List.replicate_succ, List.replicate_succ, List.flatten_cons, List.flatten_cons]; exact dpa_app d1 ih
  exact k _ _ _ _ τ n (A.new hp) ex (rv_lst upd_same (dpAll_ex ex _ _ (d2 _))) q
def CPowW (i j : Int) : Prop := 0 ≤ j ∧ (Builtin.Int.intBits i : Int) * j ≤ 2 ^ 27
theorem op_powW {X : Cx} : OpR X (binaryOp .Pow) (rI CPowW fun i j => .int (i ^ j.toNat)) := opI fun _ _ _ _ _ _ _ hc q => PyProof.Rows.pow_int hc.1 hc.2 q
theorem ex_add (h : EX C τ n a fun x τ1 n1 => EX C τ1 n1 b fun y τ2 n2 => (∃ i j, x = aI i ∧ y = aI j ∧ Q (aI (i + j)) τ2 n2) ∨ (∃ ds es, x = .d (.list ds) ∧ y = .d (.list es) ∧ ds.length + es.length ≤ sizeLine ∧ Q (.d (.list (ds ++ es))) τ2 n2)) : EX C τ n (.BinOp a .Add b pos) Q :=
  ex_bin (op_add.or op_cat) (h.imp fun _ _ _ h1 => h1.imp fun _ _ _ h2 => rr_or (h2.imp rr_I0 rr_cat))
theorem ex_sub (h : EX C τ n a fun x τ1 n1 => EX C τ1 n1 b fun y τ2 n2 => ∃ i j, x = aI i ∧ y = aI j ∧ Q (aI (i - j)) τ2 n2) : EX C τ n (.BinOp a .Sub b pos) Q :=
  ex_bin op_sub (h.imp fun _ _ _ h1 => h1.imp fun _ _ _ h2 => rr_I0 h2)
theorem ex_mul (h : EX C τ n a fun x τ1 n1 => EX C τ1 n1 b fun y τ2 n2 => (∃ i j, x = aI i ∧ y = aI j ∧ CMulW i j ∧ Q (aI (i * j)) τ2 n2) ∨
    (∃ (ds : List PyData) (k : Int), x = .d (.list ds) ∧ y = aI k ∧ -(2 ^ 63) ≤ k ∧ k < 2 ^ 63 ∧ ds.length * k.toNat ≤ sizeLine ∧ Q (.d (.list (List.replicate k.toNat ds).flatten)) τ2 n2)) : EX C τ n (.BinOp a .Mult b pos) Q :=
  ex_bin (op_mulW.or op_rep) (h.imp fun _ _ _ h1 => h1.imp fun _ _ _ h2 => rr_or (h2.imp rr_I rr_rep))
theorem ex_fdiv (h : EX C τ n a fun x τ1 n1 => EX C τ1 n1 b fun y τ2 n2 => ∃ i j, x = aI i ∧ y = aI j ∧ CDivW i j ∧ Q (aI (i / j)) τ2 n2) : EX C τ n (.BinOp a .FloorDiv b pos) Q :=
  ex_bin op_fdivW (h.imp fun _ _ _ h1 => h1.imp fun _ _ _ h2 => rr_I h2)
theorem ex_mod (h : EX C τ n a fun x τ1 n1 => EX C τ1 n1 b fun y τ2 n2 => ∃ i j, x = aI i ∧ y = aI j ∧ 0 < j ∧ Q (aI (i % j)) τ2 n2) : EX C τ n (.BinOp a .Mod b pos) Q :=
  ex_bin op_mod (h.imp fun _ _ _ h1 => h1.imp fun _ _ _ h2 => rr_I h2)
theorem ex_pow (h : EX C τ n a fun x τ1 n1 => EX C τ1 n1 b fun y τ2 n2 => ∃ i j, x = aI i ∧ y = aI j ∧ CPowW i j ∧ Q (aI (i ^ j.toNat)) τ2 n2) : EX C τ n (.BinOp a .Pow b pos) Q :=
  ex_bin op_powW (h.imp fun _ _ _ h1 => h1.imp fun _ _ _ h2 => rr_I h2)
theorem ex_shl (h : EX C τ n a fun x τ1 n1 => EX C τ1 n1 b fun y τ2 n2 => ∃ i j, x = aI i ∧ y = aI j ∧ CPow i j ∧ Q (aI (i * 2 ^ j.toNat)) τ2 n2) : EX C τ n (.BinOp a .LShift b pos) Q :=
  ex_bin op_shl (h.imp fun _ _ _ h1 => h1.imp fun _ _ _ h2 => rr_I h2)
theorem ex_shr (h : EX C τ n a fun x τ1 n1 => EX C τ1 n1 b fun y τ2 n2 => ∃ i j, x = aI i ∧ y = aI j ∧ 0 ≤ j ∧ Q (aI (i / 2 ^ j.toNat)) τ2 n2) : EX C τ n (.BinOp a .RShift b pos) Q :=
  ex_bin op_shr (h.imp fun _ _ _ h1 => h1.imp fun _ _ _ h2 => rr_I h2)
theorem ex_band (h : EX C τ n a fun x τ1 n1 => EX C τ1 n1 b fun y τ2 n2 => ∃ i j, x = aI i ∧ y = aI j ∧ Q (aI (Builtin.bitAnd i j)) τ2 n2) : EX C τ n (.BinOp a .BitAnd b pos) Q :=
  ex_bin op_and (h.imp fun _ _ _ h1 => h1.imp fun _ _ _ h2 => rr_I0 h2)
theorem ex_neg (h : EX C τ n a fun x τ1 n1 => ∃ i, x = aI i ∧ Q (aI (-i)) τ1 n1) : EX C τ n (.UnaryOp .USub a pos) Q := by
  intro pv σ G H R A k
  refine re_of (pe_un un_neg pe_re) ?_
  refine h pv σ G H _ A fun v x G1 H1 τ1 n1 A1 e1 r1 ⟨i, ex, q⟩ => ?_
  subst ex
  exact ⟨i, r1.int, k _ _ G1 H1 τ1 n1 A1 e1 (rv_int _) q⟩

/-! ### comparisons -/
theorem rr_eqD (h : ∃ d e, x = .d d ∧ y = .d e ∧ SeqAt.shaped d = true ∧ SeqAt.shaped e = true ∧ Q (aB (PyData.eqv d e)) τ n) : RR C (rEqD C.X.K) x y τ n Q := by
  intro pv σ G H R v u A rx ry k
  obtain ⟨d, e, rfl, rfl, s1, s2, q⟩ := h
  exact ⟨d, e, dt_dp A.gh _ _ rx, dt_dp A.gh _ _ ry, s1, s2, k _ _ G H τ n A (Ex.refl _) (rv_bool _) q⟩
theorem rr_neD (h : ∃ d e, x = .d d ∧ y = .d e ∧ SeqAt.shaped d = true ∧ SeqAt.shaped e = true ∧ Q (aB (!PyData.eqv d e)) τ n) : RR C (rNeD C.X.K) x y τ n Q := by
  intro pv σ G H R v u A rx ry k
  obtain ⟨d, e, rfl, rfl, s1, s2, q⟩ := h
  exact ⟨d, e, dt_dp A.gh _ _ rx, dt_dp A.gh _ _ ry, s1, s2, k _ _ G H τ n A (Ex.refl _) (rv_bool _) q⟩
theorem rr_eqI (h : ∃ i j, x = aI i ∧ y = aI j ∧ Q (aB (decide (i = j))) τ n) : RR C rEq x y τ n Q := by
  intro pv σ G H R v u A rx ry k
  obtain ⟨i, j, rfl, rfl, q⟩ := h
  rw [rx.int, ry.int]
  refine ⟨rfl, ?_⟩
  have e : decide (V.int i = V.int j) = decide (i = j) := by rw [Bool.eq_iff_iff]; simp
  rw [e]
  exact k _ _ G H τ n A (Ex.refl _) (rv_bool _) q
theorem rr_neI (h : ∃ i j, x = aI i ∧ y = aI j ∧ Q (aB (!decide (i = j))) τ n) : RR C rNe x y τ n Q := by
  intro pv σ G H R v u A rx ry k
  obtain ⟨i, j, rfl, rfl, q⟩ := h
  rw [rx.int, ry.int]
  refine ⟨rfl, ?_⟩
  have e : decide (V.int i = V.int j) = decide (i = j) := by rw [Bool.eq_iff_iff]; simp
  rw [e]
  exact k _ _ G H τ n A (Ex.refl _) (rv_bool _) q
def isNoneD : Av → Bool
  | .d .none => true
  | _ => false
theorem isNone_rv {W : Wo} {G : Hp} {v : V} (r : Rv W G v x) : decide (v = .non) = isNoneD x := by
  cases x with
  | d d =>
    cases d with
    | none => rw [r.none]; rfl
    | _ => have r : Dt W.K G v _ := r; cases r <;> rfl
  | pu => obtain ⟨p, _, rfl⟩ := r; rfl
  | pc => obtain ⟨p, _, rfl⟩ := r; rfl
  | dc k => obtain ⟨p, rfl, _⟩ := r; rfl
  | sc k => obtain ⟨p, rfl, _⟩ := r; rfl
  | ex k _ => obtain ⟨p, rfl, _⟩ := r; rfl
theorem rr_isN (h : y = aN ∧ Q (aB (isNoneD x)) τ n) : RR C (fun x y H Q => y = .non ∧ Q (.bl (decide (x = .non))) H) x y τ n Q := by
  intro pv σ G H R v u A rx ry k
  obtain ⟨rfl, q⟩ := h
  refine ⟨ry.none, ?_⟩
  show R (.bl (decide (v = .non))) H
  rw [isNone_rv rx]
  exact k _ _ G H τ n A (Ex.refl _) (rv_bool _) q
theorem rr_notN (h : y = aN ∧ Q (aB (!isNoneD x)) τ n) : RR C (fun x y H Q => y = .non ∧ Q (.bl (!decide (x = .non))) H) x y τ n Q := by
  intro pv σ G H R v u A rx ry k
  obtain ⟨rfl, q⟩ := h
  refine ⟨ry.none, ?_⟩
  show R (.bl (!decide (v = .non))) H
  rw [isNone_rv rx]
  exact k _ _ G H τ n A (Ex.refl _) (rv_bool _) q
theorem inV_ints (i : Int) (ns : List Int) : inV (.int i) (ns.map V.int) = decide (i ∈ ns) := by
  unfold inV
  rw [Bool.eq_iff_iff]
  simp only [List.any_eq_true, List.mem_map, decide_eq_true_eq]
  constructor
  · rintro ⟨y, ⟨j, hj, rfl⟩, h⟩
    have h : (j == i) = true := h
    rw [beq_iff_eq.mp h] at hj
    exact hj
  · intro h
    exact ⟨_, ⟨i, h, rfl⟩, show (i == i) = true by simp⟩
theorem flat_ints (ns : List Int) : (ns.map V.int).all flatV = true := by
  rw [List.all_eq_true]
  intro v hv
  obtain ⟨i, _, rfl⟩ := List.mem_map.mp hv
  rfl
theorem rr_inI {neg : Bool} (h : ∃ i ns, x = aI i ∧ y = aL ns ∧ Q (aB (if neg = true then !decide (i ∈ ns) else decide (i ∈ ns))) τ n) : RR C (rIn C.X.K neg) x y τ n Q := by
  intro pv σ G H R v u A rx ry k
  obtain ⟨i, ns, rfl, rfl, q⟩ := h
  obtain ⟨l, xs, rfl, h1, d1⟩ := ry.list
  have e := dpa_ints d1
  subst e
  refine ⟨l, _, rfl, .inl (SqL.of (A.gh _ _ h1)), by rw [rx.int]; rfl, flat_ints ns, ?_⟩
  rw [rx.int, inV_ints]
  exact k _ _ G H τ n A (Ex.refl _) (rv_bool _) q
/-! as values -/
section
variable (QQ : Av → List Sl → Nat → Prop)
abbrev PLt (x y : Av) (τ : List Sl) (n : Nat) : Prop := ∃ i j, x = aI i ∧ y = aI j ∧ QQ (aB (decide (i < j))) τ n
abbrev PLe (x y : Av) (τ : List Sl) (n : Nat) : Prop := ∃ i j, x = aI i ∧ y = aI j ∧ QQ (aB (decide (i ≤ j))) τ n
abbrev PGt (x y : Av) (τ : List Sl) (n : Nat) : Prop := ∃ i j, x = aI i ∧ y = aI j ∧ QQ (aB (decide (j < i))) τ n
abbrev PGe (x y : Av) (τ : List Sl) (n : Nat) : Prop := ∃ i j, x = aI i ∧ y = aI j ∧ QQ (aB (decide (j ≤ i))) τ n
abbrev PEq (x y : Av) (τ : List Sl) (n : Nat) : Prop := (∃ i j, x = aI i ∧ y = aI j ∧ QQ (aB (decide (i = j))) τ n) ∨ (∃ d e, x = .d d ∧ y = .d e ∧ SeqAt.shaped d = true ∧ SeqAt.shaped e = true ∧ QQ (aB (PyData.eqv d e)) τ n)
abbrev PNe (x y : Av) (τ : List Sl) (n : Nat) : Prop := (∃ i j, x = aI i ∧ y = aI j ∧ QQ (aB (!decide (i = j))) τ n) ∨ (∃ d e, x = .d d ∧ y = .d e ∧ SeqAt.shaped d = true ∧ SeqAt.shaped e = true ∧ QQ (aB (!PyData.eqv d e)) τ n)
abbrev PIn (x y : Av) (τ : List Sl) (n : Nat) : Prop := ∃ i ns, x = aI i ∧ y = aL ns ∧ QQ (aB (decide (i ∈ ns))) τ n
abbrev PNi (x y : Av) (τ : List Sl) (n : Nat) : Prop := ∃ i ns, x = aI i ∧ y = aL ns ∧ QQ (aB (!decide (i ∈ ns))) τ n
end
abbrev QB (QT : Bool → List Sl → Nat → Prop) : Av → List Sl → Nat → Prop := fun z τ3 n3 => ∃ k, z = aB k ∧ QT k τ3 n3
theorem ex_lt (h : EX C τ n a fun x τ1 n1 => EX C τ1 n1 b fun y τ2 n2 => PLt Q x y τ2 n2) : EX C τ n (.Compare a [.Lt] [b] pos) Q := ex_cmp op_lt (nomark _) (h.imp fun _ _ _ h1 => h1.imp fun _ _ _ h2 => rr_B0 h2)
theorem ex_le (h : EX C τ n a fun x τ1 n1 => EX C τ1 n1 b fun y τ2 n2 => PLe Q x y τ2 n2) : EX C τ n (.Compare a [.LtE] [b] pos) Q := ex_cmp op_le (nomark _) (h.imp fun _ _ _ h1 => h1.imp fun _ _ _ h2 => rr_B0 h2)
theorem ex_gt (h : EX C τ n a fun x τ1 n1 => EX C τ1 n1 b fun y τ2 n2 => PGt Q x y τ2 n2) : EX C τ n (.Compare a [.Gt] [b] pos) Q := ex_cmp op_gt (nomark _) (h.imp fun _ _ _ h1 => h1.imp fun _ _ _ h2 => rr_B0 h2)
theorem ex_ge (h : EX C τ n a fun x τ1 n1 => EX C τ1 n1 b fun y τ2 n2 => PGe Q x y τ2 n2) : EX C τ n (.Compare a [.GtE] [b] pos) Q := ex_cmp op_ge (nomark _) (h.imp fun _ _ _ h1 => h1.imp fun _ _ _ h2 => rr_B0 h2)
theorem et_lt (h : EX C τ n a fun x τ1 n1 => EX C τ1 n1 b fun y τ2 n2 => PLt (QB QT) x y τ2 n2) : ET C τ n (.Compare a [.Lt] [b] pos) QT := et_cmp op_lt (nomark _) (h.imp fun _ _ _ h1 => h1.imp fun _ _ _ h2 => rr_B0 h2)
theorem et_le (h : EX C τ n a fun x τ1 n1 => EX C τ1 n1 b fun y τ2 n2 => PLe (QB QT) x y τ2 n2) : ET C τ n (.Compare a [.LtE] [b] pos) QT := et_cmp op_le (nomark _) (h.imp fun _ _ _ h1 => h1.imp fun _ _ _ h2 => rr_B0 h2)
theorem et_gt (h : EX C τ n a fun x τ1 n1 => EX C τ1 n1 b fun y τ2 n2 => PGt (QB QT) x y τ2 n2) : ET C τ n (.Compare a [.Gt] [b] pos) QT := et_cmp op_gt (nomark _) (h.imp fun _ _ _ h1 => h1.imp fun _ _ _ h2 => rr_B0 h2)
theorem et_ge (h : EX C τ n a fun x τ1 n1 => EX C τ1 n1 b fun y τ2 n2 => PGe (QB QT) x y τ2 n2) : ET C τ n (.Compare a [.GtE] [b] pos) QT := et_cmp op_ge (nomark _) (h.imp fun _ _ _ h1 => h1.imp fun _ _ _ h2 => rr_B0 h2)
theorem ex_eq {k : Nat} (hr : Room k C.X.A) (h : EX C τ n a fun x τ1 n1 => EX C τ1 n1 b fun y τ2 n2 => PEq Q x y τ2 n2) : EX C τ n (.Compare a [.Eq] [b] pos) Q := ex_cmp (op_eq.or (op_eqD hr.units)) (nomark _) (h.imp fun _ _ _ h1 => h1.imp fun _ _ _ h2 => rr_or (h2.imp rr_eqI rr_eqD))
theorem ex_ne {k : Nat} (hr : Room k C.X.A) (h : EX C τ n a fun x τ1 n1 => EX C τ1 n1 b fun y τ2 n2 => PNe Q x y τ2 n2) : EX C τ n (.Compare a [.NotEq] [b] pos) Q := ex_cmp (op_ne.or (op_neD hr.units)) (nomark _) (h.imp fun _ _ _ h1 => h1.imp fun _ _ _ h2 => rr_or (h2.imp rr_neI rr_neD))
theorem et_eq {k : Nat} (hr : Room k C.X.A) (h : EX C τ n a fun x τ1 n1 => EX C τ1 n1 b fun y τ2 n2 => PEq (QB QT) x y τ2 n2) : ET C τ n (.Compare a [.Eq] [b] pos) QT := et_cmp (op_eq.or (op_eqD hr.units)) (nomark _) (h.imp fun _ _ _ h1 => h1.imp fun _ _ _ h2 => rr_or (h2.imp rr_eqI rr_eqD))
theorem et_ne {k : Nat} (hr : Room k C.X.A) (h : EX C τ n a fun x τ1 n1 => EX C τ1 n1 b fun y τ2 n2 => PNe (QB QT) x y τ2 n2) : ET C τ n (.Compare a [.NotEq] [b] pos) QT := et_cmp (op_ne.or (op_neD hr.units)) (nomark _) (h.imp fun _ _ _ h1 => h1.imp fun _ _ _ h2 => rr_or (h2.imp rr_neI rr_neD))
theorem ex_is (h : EX C τ n a fun x τ1 n1 => EX C τ1 n1 b fun y τ2 n2 => y = aN ∧ Q (aB (isNoneD x)) τ2 n2) : EX C τ n (.Compare a [.Is] [b] pos) Q := ex_cmp op_isN (nomark _) (h.imp fun _ _ _ h1 => h1.imp fun _ _ _ h2 => rr_isN h2)
theorem ex_isnot (h : EX C τ n a fun x τ1 n1 => EX C τ1 n1 b fun y τ2 n2 => y = aN ∧ Q (aB (!isNoneD x)) τ2 n2) : EX C τ n (.Compare a [.IsNot] [b] pos) Q := ex_cmp op_notN (nomark _) (h.imp fun _ _ _ h1 => h1.imp fun _ _ _ h2 => rr_notN h2)
theorem et_is (h : EX C τ n a fun x τ1 n1 => EX C τ1 n1 b fun y τ2 n2 => y = aN ∧ QT (isNoneD x) τ2 n2) : ET C τ n (.Compare a [.Is] [b] pos) QT := et_cmp op_isN (nomark _) (h.imp fun _ _ _ h1 => h1.imp fun _ _ _ h2 => rr_isN ⟨h2.1, _, rfl, h2.2⟩)
theorem et_isnot (h : EX C τ n a fun x τ1 n1 => EX C τ1 n1 b fun y τ2 n2 => y = aN ∧ QT (!isNoneD x) τ2 n2) : ET C τ n (.Compare a [.IsNot] [b] pos) QT := et_cmp op_notN (nomark _) (h.imp fun _ _ _ h1 => h1.imp fun _ _ _ h2 => rr_notN ⟨h2.1, _, rfl, h2.2⟩)
theorem ex_in (hm : behindInMarks .In b = false) (h : EX C τ n a fun x τ1 n1 => EX C τ1 n1 b fun y τ2 n2 => PIn Q x y τ2 n2) : EX C τ n (.Compare a [.In] [b] pos) Q := ex_cmp op_in_seq hm (h.imp fun _ _ _ h1 => h1.imp fun _ _ _ h2 => rr_inI (neg := false) h2)
theorem ex_notin (hm : behindInMarks .NotIn b = false) (h : EX C τ n a fun x τ1 n1 => EX C τ1 n1 b fun y τ2 n2 => PNi Q x y τ2 n2) : EX C τ n (.Compare a [.NotIn] [b] pos) Q := ex_cmp op_notIn_seq hm (h.imp fun _ _ _ h1 => h1.imp fun _ _ _ h2 => rr_inI (neg := true) h2)
theorem et_in (hm : behindInMarks .In b = false) (h : EX C τ n a fun x τ1 n1 => EX C τ1 n1 b fun y τ2 n2 => PIn (QB QT) x y τ2 n2) : ET C τ n (.Compare a [.In] [b] pos) QT := et_cmp op_in_seq hm (h.imp fun _ _ _ h1 => h1.imp fun _ _ _ h2 => rr_inI (neg := false) h2)
theorem et_notin (hm : behindInMarks .NotIn b = false) (h : EX C τ n a fun x τ1 n1 => EX C τ1 n1 b fun y τ2 n2 => PNi (QB QT) x y τ2 n2) : ET C τ n (.Compare a [.NotIn] [b] pos) QT := et_cmp op_notIn_seq hm (h.imp fun _ _ _ h1 => h1.imp fun _ _ _ h2 => rr_inI (neg := true) h2)
/-- a <= b <= c -/
theorem ex_chain_le (hm : lastMarks [CmpOp.LtE, .LtE] [b, c] = false) (h : EX C τ n a fun x τ1 n1 => EX C τ1 n1 b fun y τ2 n2 => ∃ i j, x = aI i ∧ y = aI j ∧ (i ≤ j → EX C τ2 n2 c fun z τ3 n3 => ∃ k, z = aI k ∧ Q (aB (decide (j ≤ k))) τ3 n3) ∧ (¬ i ≤ j → Q (aB false) τ2 n2)) : EX C τ n (.Compare a [.LtE, .LtE] [b, c] pos) Q := by
  intro pv σ G H R A k
  refine re_of (pe_chain op_le op_le pe_re pe_re pe_re hm) ?_
  refine h pv σ G H _ A fun v x G1 H1 τ1 n1 A1 e1 r1 h1 => ?_
  refine h1 pv σ G1 H1 _ A1 fun u y G2 H2 τ2 n2 A2 e2 r2 ⟨i, j, ex, ey, q1, q2⟩ => ?_
  subst ex ey
  refine ⟨i, j, r1.int, r2.int, _, rfl, ?_⟩
  by_cases hij : i ≤ j
  · rw [decide_eq_true hij]
    refine iteT ?_
    refine q1 hij pv σ G2 H2 _ A2 fun w z G3 H3 τ3 n3 A3 e3 r3 ⟨m, ez, q⟩ => ?_
    subst ez
    exact ⟨j, m, r2.int, r3.int, k _ _ G3 H3 τ3 n3 A3 ((e1.trans e2).trans e3) (rv_bool _) q⟩
  · rw [decide_eq_false hij]
    exact iteF (k _ _ G2 H2 τ2 n2 A2 (e1.trans e2) (rv_bool _) (q2 hij))
theorem et_chain_le (hm : lastMarks [CmpOp.LtE, .LtE] [b, c] = false) (h : EX C τ n a fun x τ1 n1 => EX C τ1 n1 b fun y τ2 n2 => ∃ i j, x = aI i ∧ y = aI j ∧ (i ≤ j → EX C τ2 n2 c fun z τ3 n3 => ∃ k, z = aI k ∧ QT (decide (j ≤ k)) τ3 n3) ∧ (¬ i ≤ j → QT false τ2 n2)) : ET C τ n (.Compare a [.LtE, .LtE] [b, c] pos) QT := by
  intro pv σ G H R A k
  refine rt_of (pt_chain op_le op_le pe_re pe_re pe_re hm) ?_
  refine h pv σ G H _ A fun v x G1 H1 τ1 n1 A1 e1 r1 h1 => ?_
  refine h1 pv σ G1 H1 _ A1 fun u y G2 H2 τ2 n2 A2 e2 r2 ⟨i, j, ex, ey, q1, q2⟩ => ?_
  subst ex ey
  refine ⟨i, j, r1.int, r2.int, _, rfl, ?_⟩
  by_cases hij : i ≤ j
  · rw [decide_eq_true hij]
    refine iteT ?_
    refine q1 hij pv σ G2 H2 _ A2 fun w z G3 H3 τ3 n3 A3 e3 r3 ⟨m, ez, q⟩ => ?_
    subst ez
    exact ⟨j, m, r2.int, r3.int, _, rfl, k _ G3 H3 τ3 n3 A3 ((e1.trans e2).trans e3) q⟩
  · rw [decide_eq_false hij]
    exact iteF ⟨_, rfl, k _ G2 H2 τ2 n2 A2 (e1.trans e2) (q2 hij)⟩
/-- a <= b < c -/
theorem et_chain_lelt (hm : lastMarks [CmpOp.LtE, .Lt] [b, c] = false) (h : EX C τ n a fun x τ1 n1 => EX C τ1 n1 b fun y τ2 n2 => ∃ i j, x = aI i ∧ y = aI j ∧ (i ≤ j → EX C τ2 n2 c fun z τ3 n3 => ∃ k, z = aI k ∧ QT (decide (j < k)) τ3 n3) ∧ (¬ i ≤ j → QT false τ2 n2)) : ET C τ n (.Compare a [.LtE, .Lt] [b, c] pos) QT := by
  intro pv σ G H R A k
  refine rt_of (pt_chain op_le op_lt pe_re pe_re pe_re hm) ?_
  refine h pv σ G H _ A fun v x G1 H1 τ1 n1 A1 e1 r1 h1 => ?_
  refine h1 pv σ G1 H1 _ A1 fun u y G2 H2 τ2 n2 A2 e2 r2 ⟨i, j, ex, ey, q1, q2⟩ => ?_
  subst ex ey
  refine ⟨i, j, r1.int, r2.int, _, rfl, ?_⟩
  by_cases hij : i ≤ j
  · rw [decide_eq_true hij]
    refine iteT ?_
    refine q1 hij pv σ G2 H2 _ A2 fun w z G3 H3 τ3 n3 A3 e3 r3 ⟨m, ez, q⟩ => ?_
    subst ez
    exact ⟨j, m, r2.int, r3.int, _, rfl, k _ G3 H3 τ3 n3 A3 ((e1.trans e2).trans e3) q⟩
  · rw [decide_eq_false hij]
    exact iteF ⟨_, rfl, k _ G2 H2 τ2 n2 A2 (e1.trans e2) (q2 hij)⟩

/-! ### tests -/
theorem et_val (h : EX C τ n e (QB QT)) (he : ∀ whole, isTrue e C.X.env whole = (do let v ← whole; standAt e.pos; holding [v] (truthy v)) := by intro _; rfl) : ET C τ n e QT := by
  intro pv σ G H R A k
  refine rt_of (pt_val pe_re he) ?_
  refine h pv σ G H _ A fun v x G1 H1 τ1 n1 A1 e1 r1 ⟨b, ex, q⟩ => ?_
  subst ex
  exact ⟨b, r1.bool, k b G1 H1 τ1 n1 A1 e1 q⟩
theorem et_not (h : ET C τ n e fun b τ1 n1 => QT (!b) τ1 n1) : ET C τ n (.UnaryOp .Not e pos) QT := by
  intro pv σ G H R A k
  refine rt_of (pt_not pt_rt) ?_
  exact h pv σ G H _ A fun b G1 H1 τ1 n1 A1 e1 q => k _ G1 H1 τ1 n1 A1 e1 q
theorem et_w (h : EW C τ n e QT) : ET C τ n e QT := by
  intro pv σ G H R A k
  exact rt_of (PW.pt pw_rw) (h pv σ G H _ A k)
theorem ew_and1 (h : ET C τ n a QT) : EW C τ n (.BoolOp .And [a] pos) QT := fun pv σ G H R A k => rw_of (pw_and1 pt_rt) (h pv σ G H _ A k)
theorem ew_or1 (h : ET C τ n a QT) : EW C τ n (.BoolOp .Or [a] pos) QT := fun pv σ G H R A k => rw_of (pw_or1 pt_rt) (h pv σ G H _ A k)
theorem ew_and (h : ET C τ n a fun v τ1 n1 => (v = true → EW C τ1 n1 (.BoolOp .And (b :: es) pos) QT) ∧ (v = false → QT false τ1 n1)) : EW C τ n (.BoolOp .And (a :: b :: es) pos) QT := by
  intro pv σ G H R A k
  refine rw_of (pw_and pt_rt pw_rw) ?_
  refine h pv σ G H _ A fun v G1 H1 τ1 n1 A1 e1 q => ?_
  cases v with
  | true => exact iteT (q.1 rfl pv σ G1 H1 _ A1 fun v' G2 H2 τ2 n2 A2 e2 q2 => k _ G2 H2 τ2 n2 A2 (e1.trans e2) q2)
  | false => exact iteF (k _ G1 H1 τ1 n1 A1 e1 (q.2 rfl))
theorem ew_or (h : ET C τ n a fun v τ1 n1 => (v = false → EW C τ1 n1 (.BoolOp .Or (b :: es) pos) QT) ∧ (v = true → QT true τ1 n1)) : EW C τ n (.BoolOp .Or (a :: b :: es) pos) QT := by
  intro pv σ G H R A k
  refine rw_of (pw_or pt_rt pw_rw) ?_
  refine h pv σ G H _ A fun v G1 H1 τ1 n1 A1 e1 q => ?_
  cases v with
  | true => exact iteT (k _ G1 H1 τ1 n1 A1 e1 (q.2 rfl))
  | false => exact iteF (q.1 rfl pv σ G1 H1 _ A1 fun v' G2 H2 τ2 n2 A2 e2 q2 => k _ G2 H2 τ2 n2 A2 (e1.trans e2) q2)
/-- as values -/
theorem ex_one {op} (h : EX C τ n a Q) : EX C τ n (.BoolOp op [a] pos) Q := fun pv σ G H R A k => re_of (pe_one pe_re) (h pv σ G H R A k)
theorem ex_and (h : EX C τ n a fun x τ1 n1 => ∃ v, x = aB v ∧ (v = true → EX C τ1 n1 (.BoolOp .And (b :: es) pos) Q) ∧ (v = false → Q (aB false) τ1 n1)) : EX C τ n (.BoolOp .And (a :: b :: es) pos) Q := by
  intro pv σ G H R A k
  refine re_of (pe_and pe_re pe_re) ?_
  refine h pv σ G H _ A fun v x G1 H1 τ1 n1 A1 e1 r1 ⟨vv, ex, q⟩ => ?_
  subst ex
  refine ⟨vv, r1.bool, ?_⟩
  cases vv with
  | true => exact iteT (q.1 rfl pv σ G1 H1 _ A1 fun v' x' G2 H2 τ2 n2 A2 e2 r2 q2 => k _ _ G2 H2 τ2 n2 A2 (e1.trans e2) r2 q2)
  | false => exact iteF (k _ _ G1 H1 τ1 n1 A1 e1 (rv_bool _) (q.2 rfl))
theorem ex_or (h : EX C τ n a fun x τ1 n1 => ∃ v, x = aB v ∧ (v = false → EX C τ1 n1 (.BoolOp .Or (b :: es) pos) Q) ∧ (v = true → Q (aB true) τ1 n1)) : EX C τ n (.BoolOp .Or (a :: b :: es) pos) Q := by
  intro pv σ G H R A k
  refine re_of (pe_or pe_re pe_re) ?_
  refine h pv σ G H _ A fun v x G1 H1 τ1 n1 A1 e1 r1 ⟨vv, ex, q⟩ => ?_
  subst ex
  refine ⟨vv, r1.bool, ?_⟩
  cases vv with
  | true => exact iteT (k _ _ G1 H1 τ1 n1 A1 e1 (rv_bool _) (q.2 rfl))
  | false => exact iteF (q.1 rfl pv σ G1 H1 _ A1 fun v' x' G2 H2 τ2 n2 A2 e2 r2 q2 => k _ _ G2 H2 τ2 n2 A2 (e1.trans e2) r2 q2)
theorem ex_notV (h : EX C τ n a fun x τ1 n1 => ∃ v, x = aB v ∧ Q (aB (!v)) τ1 n1) : EX C τ n (.UnaryOp .Not a pos) Q := by
  intro pv σ G H R A k
  refine re_of (pe_not pe_re) ?_
  refine h pv σ G H _ A fun v x G1 H1 τ1 n1 A1 e1 r1 ⟨vv, ex, q⟩ => ?_
  subst ex
  exact ⟨vv, r1.bool, k _ _ G1 H1 τ1 n1 A1 e1 (rv_bool _) q⟩
theorem ex_ifExp (h : ET C τ n c fun v τ1 n1 => (v = true → EX C τ1 n1 a Q) ∧ (v = false → EX C τ1 n1 b Q)) : EX C τ n (.IfExp c a b pos) Q := by
  intro pv σ G H R A k
  refine re_of (pe_ifExp pt_rt pe_re pe_re) ?_
  refine h pv σ G H _ A fun v G1 H1 τ1 n1 A1 e1 q => ?_
  cases v with
  | true => exact iteT (q.1 rfl pv σ G1 H1 _ A1 fun v' x' G2 H2 τ2 n2 A2 e2 r2 q2 => k _ _ G2 H2 τ2 n2 A2 (e1.trans e2) r2 q2)
  | false => exact iteF (q.2 rfl pv σ G1 H1 _ A1 fun v' x' G2 H2 τ2 n2 A2 e2 r2 q2 => k _ _ G2 H2 τ2 n2 A2 (e1.trans e2) r2 q2)
/-- the truth of a list -/
theorem et_list (h : EX C τ n e fun x τ1 n1 => ∃ ds, x = .d (.list ds) ∧ QT (!ds.isEmpty) τ1 n1) (he : ∀ whole, isTrue e C.X.env whole = (do let v ← whole; standAt e.pos; holding [v] (truthy v)) := by intro _; rfl) : ET C τ n e QT := by
  intro pv σ G H R A k
  refine rt_of (pt_truth pe_re he) ?_
  refine h pv σ G H _ A fun v x G1 H1 τ1 n1 A1 e1 r1 ⟨ds, ex, q⟩ => ?_
  subst ex
  obtain ⟨l, xs, rfl, h1, d1⟩ := r1.list
  refine ⟨!ds.isEmpty, .inl ⟨xs, SqL.of (A1.gh _ _ h1), ?_⟩, k _ G1 H1 τ1 n1 A1 e1 q⟩
  cases d1 <;> rfl

/-! ### arguments, displays -/
variable {QA : List Av → List Sl → Nat → Prop}
theorem ea_nil (q : QA [] τ n) : EA C τ n [] QA := fun pv σ G H R A k => ra_of pa_nil (k [] [] G H τ n A (Ex.refl _) .nil q)
theorem ea_cons (h : EX C τ n e fun x τ1 n1 => EA C τ1 n1 es fun xs τ2 n2 => QA (x :: xs) τ2 n2) (hs : starEach (e :: es) C.X.env = (false, eval e C.X.env) :: starEach es C.X.env := by rfl) : EA C τ n (e :: es) QA := by
  intro pv σ G H R A k
  refine ra_of (pa_cons pe_re pa_ra hs) ?_
  refine h pv σ G H _ A fun v x G1 H1 τ1 n1 A1 e1 r1 h1 => ?_
  exact h1 pv σ G1 H1 _ A1 fun vs xs G2 H2 τ2 n2 A2 e2 r2 q => k _ _ G2 H2 τ2 n2 A2 (e1.trans e2) (.cons (r1.ex e2) r2) q
theorem ex_lst (h : EA C τ n es fun xs τ1 n1 => ∃ ds, unD xs = some ds ∧ ds.length ≤ sizeLine ∧ Q (.d (.list ds)) τ1 n1) : EX C τ n (.List es pos) Q := by
  intro pv σ G H R A k
  refine re_of (pe_lst pa_ra) ?_
  refine h pv σ G H _ A fun vs xs G1 H1 τ1 n1 A1 e1 r1 ⟨ds, hu, hz, q⟩ => ?_
  have d1 := unD_all r1 hu
  refine ⟨by rw [dpa_len d1]; exact hz, fun p hp => ?_⟩
  have ex : Ex G1 (upd G1 p (.lst vs)) := Ex.new (A1.freshG hp)
  exact k _ _ _ _ τ1 n1 (A1.new hp) (e1.trans ex) (rv_lst upd_same (dpAll_ex ex _ _ d1)) q
end
end M

set_option Elab.async false
set_option linter.all false
set_option maxRecDepth 100000
set_option maxHeartbeats 4000000
namespace M
open PySem PySem.Spec PyProof.Rows L2

theorem cor_ex {C : Cn} {G G1 : Hp} {D : AE} {Dc : Ends} (k : Cor C G D Dc) (e : Ex G G1) : Cor C G1 D Dc :=
  ⟨fun σ G' H τ n A e' q => k.nx σ G' H τ n A (e.trans e') q, k.rt, fun σ G' H τ n A e' q => k.bk σ G' H τ n A (e.trans e') q, fun σ G' H τ n A e' q => k.ct σ G' H τ n A (e.trans e') q, k.rf⟩
section
variable {C : Cn} {τ : List Sl} {n : Nat} {e a b c : Expr} {es : List Expr} {pos : Pos} {Q : Av → List Sl → Nat → Prop} {QT : Bool → List Sl → Nat → Prop} {x y : Av}

/-! ### subscripts -/
theorem atI_dt {K : PySem.W.Frag} {G : Hp} {xs : List V} {ds : List PyData} {i : Int} {d : PyData} (h : DtAll K G xs ds) (e : atI ds i = some d) : ∃ v, atI xs i = some v ∧ Dt K G v d := by
  unfold atI at e ⊢
  rw [dpa_len h]
  cases q : ixN ds.length i with
  | none => rw [q] at e; cases e
  | some j =>
    rw [q] at e
    exact dpa_get h e
theorem rr_ixL (h : ∃ ds i d, x = .d (.list ds) ∧ y = aI i ∧ atI ds i = some d ∧ Q (.d d) τ n) : RR C (rIxL C.X.K) x y τ n Q := by
  intro pv σ G H R v u A rx ry k
  obtain ⟨ds, i, d, rfl, rfl, hd, q⟩ := h
  obtain ⟨l, xs, rfl, h1, d1⟩ := rx.list
  obtain ⟨w, h2, r2⟩ := atI_dt d1 hd
  exact ⟨l, xs, i, w, rfl, ry.int, SqL.of (A.gh _ _ h1), h2, k _ _ G H τ n A (Ex.refl _) (show Rv C.WK G w (.d d) from r2) q⟩
theorem rr_ixT (h : ∃ ds i d, x = .d (.tuple ds) ∧ y = aI i ∧ atI ds i = some d ∧ Q (.d d) τ n) : RR C (rIxT C.X.K) x y τ n Q := by
  intro pv σ G H R v u A rx ry k
  obtain ⟨ds, i, d, rfl, rfl, hd, q⟩ := h
  obtain ⟨l, xs, rfl, h1, d1⟩ := rx.tuple
  obtain ⟨w, h2, r2⟩ := atI_dt d1 hd
  exact ⟨l, xs, i, w, rfl, ry.int, ex_t A.gh h1, h2, k _ _ G H τ n A (Ex.refl _) (show Rv C.WK G w (.d d) from r2) q⟩
theorem ex_ix (hs : PlainIx b) (h : EX C τ n a fun x τ1 n1 => EX C τ1 n1 b fun y τ2 n2 => ∃ ds i d, x = .d (.list ds) ∧ y = aI i ∧ atI ds i = some d ∧ Q (.d d) τ2 n2) : EX C τ n (.Subscript a b pos) Q := by
  intro pv σ G H R A k
  refine re_of (pe_ix ix_list pe_re pe_re hs) ?_
  refine h pv σ G H _ A fun v x G1 H1 τ1 n1 A1 e1 r1 h1 => ?_
  refine h1 pv σ G1 H1 _ A1 fun u y G2 H2 τ2 n2 A2 e2 r2 h2 => ?_
  exact rr_ixL h2 pv σ G2 H2 R v u A2 (r1.ex e2) r2 fun v' x' G' H' τ' n' A' e' r' q' => k v' x' G' H' τ' n' A' ((e1.trans e2).trans e') r' q'
theorem ex_ixT (hs : PlainIx b) (h : EX C τ n a fun x τ1 n1 => EX C τ1 n1 b fun y τ2 n2 => ∃ ds i d, x = .d (.tuple ds) ∧ y = aI i ∧ atI ds i = some d ∧ Q (.d d) τ2 n2) : EX C τ n (.Subscript a b pos) Q := by
  intro pv σ G H R A k
  refine re_of (pe_ix ix_tup pe_re pe_re hs) ?_
  refine h pv σ G H _ A fun v x G1 H1 τ1 n1 A1 e1 r1 h1 => ?_
  refine h1 pv σ G1 H1 _ A1 fun u y G2 H2 τ2 n2 A2 e2 r2 h2 => ?_
  exact rr_ixT h2 pv σ G2 H2 R v u A2 (r1.ex e2) r2 fun v' x' G' H' τ' n' A' e' r' q' => k v' x' G' H' τ' n' A' ((e1.trans e2).trans e') r' q'
/-- an item of an own list -/
theorem ex_ixO {i : Nat} {z : Str} {p : Pos} {ds : List PyData} (hz : Nm C.X i z) (ht : τ[i]? = some (.ow ds)) (hs : PlainIx b)
    (h : EX C τ n b fun y τ1 n1 => ∃ ds' j d, τ1[i]? = some (.ow ds') ∧ y = aI j ∧ atI ds' j = some d ∧ Q (.d d) τ1 n1) : EX C τ n (.Subscript (.Name z p) b pos) Q := by
  intro pv σ G H R A k
  refine re_of (pe_ix ix_list (pe_var hz.hN hz.hv hz.hd hz.hc) pe_re hs) ?_
  obtain ⟨q, xs, e1, e2, _⟩ := A.ow i ds ht
  refine ⟨_, e1, ?_⟩
  refine h pv σ G H _ A fun u y G1 H1 τ1 n1 A1 e3 r1 ⟨ds', j, d, ht1, ey, hd, qq⟩ => ?_
  subst ey
  obtain ⟨q', xs', e1', e2', d1, _⟩ := A1.ow i ds' ht1
  rw [e1] at e1'
  cases e1'
  obtain ⟨w, h2, r2⟩ := atI_dt d1 hd
  exact ⟨q, xs', j, w, rfl, r1.int, SqL.of e2', h2, k _ _ G1 H1 τ1 n1 A1 e3 (show Rv C.WK G1 w (.d d) from r2) qq⟩
/-- an entry of a dict -/
def dcGet (kvs : List (Int × Int)) (i : Int) : Option Int := kvs.lookup i
theorem valV_dc (i : Int) : ∀ kvs : List (Int × Int), valV (dcV kvs) (Sum.inl i) = (kvs.lookup i).map V.int
  | [] => rfl
  | (k, w) :: r => by
    have ih := valV_dc i r
    unfold dcV at ih ⊢
    rw [List.map_cons]
    by_cases h : i = k
    · subst h
      simp [valV, List.lookup]
    · have h2 : (i == k) = false := by simpa using h
      have h3 : ¬ (Sum.inl k : Key) = Sum.inl i := fun q => h (Sum.inl.inj q).symm
      simp only [List.lookup, h2]
      rw [← ih]
      simp [valV, h3]
theorem ex_ixD {k : Nat} (hr : Room k C.X.A) (hs : NoSl b) (h : EX C τ n a fun x τ1 n1 => EX C τ1 n1 b fun y τ2 n2 => ∃ kvs i j, x = .dc kvs ∧ y = aI i ∧ kvs.lookup i = some j ∧ Q (aI j) τ2 n2) : EX C τ n (.Subscript a b pos) Q := by
  intro pv σ G H R A kk
  refine re_of (pe_dget (hu_of hr) pe_re pe_re hs) ?_
  refine h pv σ G H _ A fun v x G1 H1 τ1 n1 A1 e1 r1 h1 => ?_
  refine h1 pv σ G1 H1 _ A1 fun u y G2 H2 τ2 n2 A2 e2 r2 ⟨kvs, i, j, ex, ey, hl, q⟩ => ?_
  subst ex ey
  obtain ⟨p, rfl, hp⟩ := r1
  refine ⟨p, .int j, rfl, .inl ⟨dcV kvs, Sum.inl i, .inl (A2.gh _ _ (e2 _ _ hp)), r2.int, ?_⟩, kk _ _ G2 H2 τ2 n2 A2 (e1.trans e2) (rv_int j) q⟩
  rw [valV_dc, hl]; rfl
/-! slices -/
def EO (C : Cn) (τ : List Sl) (n : Nat) (e : Option Expr) (Q : Option Int → List Sl → Nat → Prop) : Prop := match e with
  | none => Q none τ n
  | some e => EX C τ n e fun x τ1 n1 => ∃ i, x = aI i ∧ Q (some i) τ1 n1
def RO (X : Cx) (e : Option Expr) : TO := match e with
  | none => tNoPart
  | some e => tPart (RE X e)
theorem po_ro {X : Cx} {e : Option Expr} : PO X e (RO X e) := by
  cases e with
  | none => exact po_none
  | some e => exact po_some pe_re
theorem eo_run {e : Option Expr} {Q : Option Int → List Sl → Nat → Prop} (h : EO C τ n e Q) {pv : Pv} {σ : L2.St} {G H : Hp} {R : Option Int → Hp → Prop} (A : C.As pv σ G H τ n)
    (k : ∀ i G' H' τ' n', C.As pv σ G' H' τ' n' → Ex G G' → Q i τ' n' → R i H') : RO C.X e σ H R := by
  cases e with
  | none => exact k none G H τ n A (Ex.refl _) h
  | some e =>
    exact h pv σ G H _ A fun v x G1 H1 τ1 n1 A1 e1 r1 ⟨i, ex, q⟩ => by
      subst ex
      exact ⟨i, r1.int, k _ G1 H1 τ1 n1 A1 e1 q⟩
def cutD (xs : List PyData) (lo hi : Option Int) : List PyData := (xs.drop (HT.sIx xs.length 0 lo)).take (HT.sIx xs.length xs.length hi - HT.sIx xs.length 0 lo)
theorem cut_dt {K : PySem.W.Frag} {G : Hp} {xs : List V} {ds : List PyData} (h : DtAll K G xs ds) (lo hi : Option Int)   : DtAll K G (cutV xs lo hi) (cutD ds lo hi) := by
  unfold cutV cutD
  rw [dpa_len h]
  exact dpa_take _ (dpa_drop _ h)
theorem ex_slice {lo hi : Option Expr} {p2 : Pos} (h : EX C τ n a fun x τ1 n1 => EO C τ1 n1 lo fun l τ2 n2 => EO C τ2 n2 hi fun u τ3 n3 => ∃ ds, x = .d (.list ds) ∧ Q (.d (.list (cutD ds l u))) τ3 n3) : EX C τ n (.Subscript a (.Slice lo hi none p2) pos) Q := by
  intro pv σ G H R A k
  refine re_of (pe_slice sl_list pe_re po_ro po_ro) ?_
  refine h pv σ G H _ A fun v x G1 H1 τ1 n1 A1 e1 r1 h1 => ?_
  refine eo_run h1 A1 fun l G2 H2 τ2 n2 A2 e2 h2 => ?_
  refine eo_run h2 A2 fun u G3 H3 τ3 n3 A3 e3 ⟨ds, ex, q⟩ => ?_
  subst ex
  obtain ⟨m, xs, rfl, h1, d1⟩ := (r1.ex (e2.trans e3)).list
  refine ⟨m, xs, rfl, SqL.of (A3.gh _ _ h1), fun p hp => ?_⟩
  have ex : Ex G3 (upd G3 p (.lst (cutV xs l u))) := Ex.new (A3.freshG hp)
  exact k _ _ _ _ τ3 n3 (A3.new hp) (((e1.trans e2).trans e3).trans ex) (rv_lst upd_same (dpAll_ex ex _ _ (cut_dt d1 l u))) q
theorem ex_rev {k : Nat} {p1 p2 p3 : Pos} (h : EX C τ n a fun x τ1 n1 => ∃ ds, x = .d (.list ds) ∧ Q (.d (.list ds.reverse)) τ1 n1) : EX C τ n (.Subscript a (.Slice none none (some (.UnaryOp .USub (.Constant (.int 1) k p1) p2)) p3) pos) Q := by
  intro pv σ G H R A kk
  refine re_of (pe_revL pe_re) ?_
  refine h pv σ G H _ A fun v x G1 H1 τ1 n1 A1 e1 r1 ⟨ds, ex, q⟩ => ?_
  subst ex
  obtain ⟨m, xs, rfl, h1, d1⟩ := r1.list
  refine ⟨m, xs, rfl, SqL.of (A1.gh _ _ h1), fun p hp => ?_⟩
  have ex : Ex G1 (upd G1 p (.lst xs.reverse)) := Ex.new (A1.freshG hp)
  exact kk _ _ _ _ τ1 n1 (A1.new hp) (e1.trans ex) (rv_lst upd_same (dpAll_ex ex _ _ (dpa_rev d1))) q
theorem ex_tup {k : Nat} (h : EA C τ n es fun xs τ1 n1 => ∃ ds, unD xs = some ds ∧ ds.length ≤ sizeLine ∧ Q (.d (.tuple ds)) τ1 n1) : EX C τ n (.Tuple es k pos) Q := by
  intro pv σ G H R A k
  refine re_of (pe_tup pa_ra) ?_
  refine h pv σ G H _ A fun vs xs G1 H1 τ1 n1 A1 e1 r1 ⟨ds, hu, hz, q⟩ => ?_
  have d1 := unD_all r1 hu
  refine ⟨by rw [dpa_len d1]; exact hz, fun p hp => ?_⟩
  have ex : Ex G1 (upd G1 p (.tup vs)) := Ex.new (A1.freshG hp)
  exact k _ _ _ _ τ1 n1 (A1.new hp) (e1.trans ex) (rv_tup (SqT.of upd_same) (dpAll_ex ex _ _ d1)) q

/-! ### builtins' calls -/
def RC (C : Cn) (r : List V → Hp → VK → Prop) (xs : List Av) (τ : List Sl) (n : Nat) (Q : Av → List Sl → Nat → Prop) : Prop := ∀ pv σ G H R vs, C.As pv σ G H τ n → RvAll C.WK G vs xs → KE C pv σ G Q R → r vs H R
theorem ex_callB {z id : Str} {r : List V → Hp → VK → Prop} {id : String} {p : Pos} (hc : CallR C.X (.builtin id) r) (hz : Bl C.X z) (hv : bootBuiltins z = some (.builtin id)) (h : EA C τ n (e :: es) fun xs τ1 n1 => RC C r xs τ1 n1 Q)
    (hn : z ≠ "__name__" := by decide) (hdb : (z == ("__debug__" : Str)) = false := by decide) (he : starEach (e :: es) C.X.env = (false, eval e C.X.env) :: starEach es C.X.env := by rfl) (hpl : (backTo pos (starEach es C.X.env)).any (·.1) = false := by rfl) :
    EX C τ n (.Call (.Name z p) (e :: es) [] pos) Q := by
  intro pv σ G H R A k
  refine re_of (pe_callB hc hz.hg hz.hm hv pa_ra hn hdb he hpl) ?_
  refine h pv σ G H _ A fun vs xs G1 H1 τ1 n1 A1 e1 r1 h1 => ?_
  exact h1 pv σ G1 H1 R vs A1 r1 fun v' x' G' H' τ' n' A' e' r' q' => k v' x' G' H' τ' n' A' (e1.trans e') r' q'
theorem ex_callT {z : Str} {r : List V → Hp → VK → Prop} {T : String} {p : Pos} (hc : CallR C.X (.type T) r) (hz : Bl C.X z) (hv : bootBuiltins z = some (.type T)) (h : EA C τ n (e :: es) fun xs τ1 n1 => RC C r xs τ1 n1 Q)
    (hn : z ≠ "__name__" := by decide) (hdb : (z == ("__debug__" : Str)) = false := by decide) (he : starEach (e :: es) C.X.env = (false, eval e C.X.env) :: starEach es C.X.env := by rfl) (hpl : (backTo pos (starEach es C.X.env)).any (·.1) = false := by rfl) :
    EX C τ n (.Call (.Name z p) (e :: es) [] pos) Q := by
  intro pv σ G H R A k
  refine re_of (pe_callTy hc hz.hg hz.hm hv pa_ra hn hdb he hpl) ?_
  refine h pv σ G H _ A fun vs xs G1 H1 τ1 n1 A1 e1 r1 h1 => ?_
  exact h1 pv σ G1 H1 R vs A1 r1 fun v' x' G' H' τ' n' A' e' r' q' => k v' x' G' H' τ' n' A' (e1.trans e') r' q'
theorem rvAll1 {W : Wo} {G : Hp} {vs : List V} {x : Av} (h : RvAll W G vs [x]) : ∃ v, vs = [v] ∧ Rv W G v x := by
  cases h with
  | cons r t => cases t; exact ⟨_, rfl, r⟩
theorem rvAll2 {W : Wo} {G : Hp} {vs : List V} {x y : Av} (h : RvAll W G vs [x, y]) : ∃ v u, vs = [v, u] ∧ Rv W G v x ∧ Rv W G u y := by
  cases h with
  | cons r t =>
    obtain ⟨u, rfl, r2⟩ := rvAll1 t
    exact ⟨_, _, rfl, r, r2⟩
variable {xs : List Av}
theorem rc_len (h : ∃ ds, (xs = [.d (.list ds)] ∨ xs = [.d (.tuple ds)]) ∧ Q (aI ds.length) τ n) : RC C (fun xs H Q => ∃ p ys, xs = [.ref p] ∧ (SqL C.X.K H p ys ∨ SqT C.X.K H p ys) ∧ Q (.int ys.length) H) xs τ n Q := by
  intro pv σ G H R vs A rv k
  obtain ⟨ds, hx, q⟩ := h
  rcases hx with rfl | rfl
  · obtain ⟨v, rfl, r1⟩ := rvAll1 rv
    obtain ⟨m, ys, rfl, h1, d1⟩ := r1.list
    refine ⟨m, ys, rfl, .inl (SqL.of (A.gh _ _ h1)), ?_⟩
    rw [dpa_len d1]
    exact k _ _ G H τ n A (Ex.refl _) (rv_int _) q
  · obtain ⟨v, rfl, r1⟩ := rvAll1 rv
    obtain ⟨m, ys, rfl, h1, d1⟩ := r1.tuple
    refine ⟨m, ys, rfl, .inr (ex_t A.gh h1), ?_⟩
    rw [dpa_len d1]
    exact k _ _ G H τ n A (Ex.refl _) (rv_int _) q
theorem boot_sorted1 : bootBuiltins "sorted" = some (.builtin "sorted") := by decide +kernel
theorem boot_len1 : bootBuiltins "len" = some (.builtin "len") := by decide +kernel
theorem boot_list1 : bootBuiltins "list" = some (.type "list") := by decide +kernel
theorem boot_tuple1 : bootBuiltins "tuple" = some (.type "tuple") := by decide +kernel
theorem boot_max1 : bootBuiltins "max" = some (.builtin "max") := by decide +kernel
theorem boot_min1 : bootBuiltins "min" = some (.builtin "min") := by decide +kernel
theorem boot_abs1 : bootBuiltins "abs" = some (.builtin "abs") := by decide +kernel
theorem boot_sum1 : bootBuiltins "sum" = some (.builtin "sum") := by decide +kernel
theorem boot_isi1 : bootBuiltins "isinstance" = some (.builtin "isinstance") := by decide +kernel
theorem ex_len {p : Pos} (hz : Bl C.X "len") (h : EA C τ n (e :: es) fun xs τ1 n1 => ∃ ds, (xs = [.d (.list ds)] ∨ xs = [.d (.tuple ds)]) ∧ Q (aI ds.length) τ1 n1)
    (he : starEach (e :: es) C.X.env = (false, eval e C.X.env) :: starEach es C.X.env := by rfl) (hpl : (backTo pos (starEach es C.X.env)).any (·.1) = false := by rfl) : EX C τ n (.Call (.Name "len" p) (e :: es) [] pos) Q :=
  ex_callB (id := "len") call_len_seq hz boot_len1 (fun pv σ G H R A k => h pv σ G H R A fun vs xs G' H' τ' n' A' e' r q => k vs xs G' H' τ' n' A' e' r (rc_len q)) (by decide) (by decide) he hpl
/-- the length of an own list -/
theorem ex_lenO {i : Nat} {z : Str} {p p2 : Pos} {ds : List PyData} (hl : Bl C.X "len") (hz : Nm C.X i z) (ht : τ[i]? = some (.ow ds)) (q : Q (aI ds.length) τ n)
    (he : starEach [Expr.Name z p2] C.X.env = (false, eval (Expr.Name z p2) C.X.env) :: starEach [] C.X.env := by rfl) : EX C τ n (.Call (.Name "len" p) [.Name z p2] [] pos) Q := by
  intro pv σ G H R A k
  refine re_of (pe_callB (id := "len") call_len_seq hl.hg hl.hm boot_len1 (pa_cons (pe_var hz.hN hz.hv hz.hd hz.hc) pa_nil he) (by decide) (by decide) he (by rfl)) ?_
  obtain ⟨q', xs, e1, e2, d1, _⟩ := A.ow i ds ht
  refine ⟨_, e1, q', xs, rfl, .inl (SqL.of e2), ?_⟩
  rw [dpa_len d1]
  exact k _ _ G H τ n A (Ex.refl _) (rv_int _) q
theorem rc_sorted (h : ∃ ns, xs = [aL ns] ∧ ∀ ns' : List Int, ns'.Perm ns → ns'.Pairwise (· ≤ ·) → Q (aL ns') τ n) : RC C (rSortedI C.X.K) xs τ n Q := by
  intro pv σ G H R vs A rv k
  obtain ⟨ns, rfl, q⟩ := h
  obtain ⟨v, rfl, r1⟩ := rvAll1 rv
  obtain ⟨m, ys, rfl, h1, d1⟩ := r1.list
  have e := dpa_ints d1
  subst e
  refine ⟨m, ns, rfl, SqL.of (A.gh _ _ h1), fun ns' p hp hs hn => ?_⟩
  have ex : Ex G (upd G p (.lst (ns'.map V.int))) := Ex.new (A.freshG hn)
  exact k _ _ _ _ τ n (A.new hn) ex (rv_lst upd_same (dpAll_ints ns')) (q ns' hp hs)
theorem ex_sorted {p : Pos} (hz : Bl C.X "sorted") (h : EA C τ n (e :: es) fun xs τ1 n1 => ∃ ns, xs = [aL ns] ∧ ∀ ns' : List Int, ns'.Perm ns → ns'.Pairwise (· ≤ ·) → Q (aL ns') τ1 n1)
    (he : starEach (e :: es) C.X.env = (false, eval e C.X.env) :: starEach es C.X.env := by rfl) (hpl : (backTo pos (starEach es C.X.env)).any (·.1) = false := by rfl) : EX C τ n (.Call (.Name "sorted" p) (e :: es) [] pos) Q :=
  ex_callB (id := "sorted") cr_sortedI hz boot_sorted1 (fun pv σ G H R A k => h pv σ G H R A fun vs xs G' H' τ' n' A' e' r q => k vs xs G' H' τ' n' A' e' r (rc_sorted q)) (by decide) (by decide) he hpl
theorem rc_list (h : ∃ ds, (xs = [.d (.list ds)] ∨ xs = [.d (.tuple ds)]) ∧ Q (.d (.list ds)) τ n) : RC C (fun xs H Q => ∃ p ys, xs = [.ref p] ∧ (SqL C.X.K H p ys ∨ SqT C.X.K H p ys) ∧ ∀ l, H l = none → Q (.ref l) (upd H l (.lst ys))) xs τ n Q := by
  intro pv σ G H R vs A rv k
  obtain ⟨ds, hx, q⟩ := h
  have fin : ∀ ys : List V, DtAll C.X.K G ys ds → ∀ l, H l = none → R (.ref l) (upd H l (.lst ys)) := fun ys d1 l hl => by
    have ex : Ex G (upd G l (.lst ys)) := Ex.new (A.freshG hl)
    exact k _ _ _ _ τ n (A.new hl) ex (rv_lst upd_same (dpAll_ex ex _ _ d1)) q
  rcases hx with rfl | rfl
  · obtain ⟨v, rfl, r1⟩ := rvAll1 rv
    obtain ⟨m, ys, rfl, h1, d1⟩ := r1.list
    exact ⟨m, ys, rfl, .inl (SqL.of (A.gh _ _ h1)), fin ys d1⟩
  · obtain ⟨v, rfl, r1⟩ := rvAll1 rv
    obtain ⟨m, ys, rfl, h1, d1⟩ := r1.tuple
    exact ⟨m, ys, rfl, .inr (ex_t A.gh h1), fin ys d1⟩
theorem ex_list {p : Pos} (hz : Bl C.X "list") (h : EA C τ n (e :: es) fun xs τ1 n1 => ∃ ds, (xs = [.d (.list ds)] ∨ xs = [.d (.tuple ds)]) ∧ Q (.d (.list ds)) τ1 n1)
    (he : starEach (e :: es) C.X.env = (false, eval e C.X.env) :: starEach es C.X.env := by rfl) (hpl : (backTo pos (starEach es C.X.env)).any (·.1) = false := by rfl) : EX C τ n (.Call (.Name "list" p) (e :: es) [] pos) Q :=
  ex_callT (T := "list") call_list_of hz boot_list1 (fun pv σ G H R A k => h pv σ G H R A fun vs xs G' H' τ' n' A' e' r q => k vs xs G' H' τ' n' A' e' r (rc_list q)) (by decide) (by decide) he hpl
theorem rc_abs (h : ∃ i, xs = [aI i] ∧ Q (aI (if i < 0 then -i else i)) τ n) : RC C (fun xs H Q => ∃ i, xs = [.int i] ∧ Q (.int (if i < 0 then -i else i)) H) xs τ n Q := by
  intro pv σ G H R vs A rv k
  obtain ⟨i, rfl, q⟩ := h
  obtain ⟨v, rfl, r1⟩ := rvAll1 rv
  rw [r1.int]
  exact ⟨i, rfl, k _ _ G H τ n A (Ex.refl _) (rv_int _) q⟩
theorem ex_abs {p : Pos} (hz : Bl C.X "abs") (h : EA C τ n (e :: es) fun xs τ1 n1 => ∃ i, xs = [aI i] ∧ Q (aI (if i < 0 then -i else i)) τ1 n1)
    (he : starEach (e :: es) C.X.env = (false, eval e C.X.env) :: starEach es C.X.env := by rfl) (hpl : (backTo pos (starEach es C.X.env)).any (·.1) = false := by rfl) : EX C τ n (.Call (.Name "abs" p) (e :: es) [] pos) Q :=
  ex_callB (id := "abs") call_abs hz boot_abs1 (fun pv σ G H R A k => h pv σ G H R A fun vs xs G' H' τ' n' A' e' r q => k vs xs G' H' τ' n' A' e' r (rc_abs q)) (by decide) (by decide) he hpl
theorem rc_max (h : (∃ ns, xs = [aL ns] ∧ 0 < ns.length ∧ ∀ m, m ∈ ns → (∀ y ∈ ns, y ≤ m) → Q (aI m) τ n)) : RC C (rMax C.X.K) xs τ n Q := by
  intro pv σ G H R vs A rv k
  obtain ⟨ns, rfl, hl, q⟩ := h
  obtain ⟨v, rfl, r1⟩ := rvAll1 rv
  obtain ⟨m, ys, rfl, h1, d1⟩ := r1.list
  have e := dpa_ints d1
  subst e
  exact ⟨m, ns, rfl, SqL.of (A.gh _ _ h1), hl, fun m hm hle => k _ _ G H τ n A (Ex.refl _) (rv_int _) (q m hm hle)⟩
theorem rc_min (h : (∃ ns, xs = [aL ns] ∧ 0 < ns.length ∧ ∀ m, m ∈ ns → (∀ y ∈ ns, m ≤ y) → Q (aI m) τ n)) : RC C (rMin C.X.K) xs τ n Q := by
  intro pv σ G H R vs A rv k
  obtain ⟨ns, rfl, hl, q⟩ := h
  obtain ⟨v, rfl, r1⟩ := rvAll1 rv
  obtain ⟨m, ys, rfl, h1, d1⟩ := r1.list
  have e := dpa_ints d1
  subst e
  exact ⟨m, ns, rfl, SqL.of (A.gh _ _ h1), hl, fun m hm hle => k _ _ G H τ n A (Ex.refl _) (rv_int _) (q m hm hle)⟩
theorem ex_max {p : Pos} (hc : C.X.calm = true) (hz : Bl C.X "max") (h : EA C τ n [e] fun xs τ1 n1 => (∃ ns, xs = [aL ns] ∧ 0 < ns.length ∧ ∀ m, m ∈ ns → (∀ y ∈ ns, y ≤ m) → Q (aI m) τ1 n1))
    (he : starEach [e] C.X.env = (false, eval e C.X.env) :: starEach [] C.X.env := by rfl) : EX C τ n (.Call (.Name "max" p) [e] [] pos) Q :=
  ex_callB (id := "max") (cr_max hc) hz boot_max1 (fun pv σ G H R A k => h pv σ G H R A fun vs xs G' H' τ' n' A' e' r q => k vs xs G' H' τ' n' A' e' r (rc_max q)) (by decide) (by decide) he (by rfl)
theorem ex_min {p : Pos} (hc : C.X.calm = true) (hz : Bl C.X "min") (h : EA C τ n [e] fun xs τ1 n1 => (∃ ns, xs = [aL ns] ∧ 0 < ns.length ∧ ∀ m, m ∈ ns → (∀ y ∈ ns, m ≤ y) → Q (aI m) τ1 n1))
    (he : starEach [e] C.X.env = (false, eval e C.X.env) :: starEach [] C.X.env := by rfl) : EX C τ n (.Call (.Name "min" p) [e] [] pos) Q :=
  ex_callB (id := "min") (cr_min hc) hz boot_min1 (fun pv σ G H R A k => h pv σ G H R A fun vs xs G' H' τ' n' A' e' r q => k vs xs G' H' τ' n' A' e' r (rc_min q)) (by decide) (by decide) he (by rfl)
theorem rc_max2 (h : ∃ i j, xs = [aI i, aI j] ∧ Q (aI (if j > i then j else i)) τ n) : RC C (fun xs H Q => ∃ i j, xs = [.int i, .int j] ∧ Q (.int (if j > i then j else i)) H) xs τ n Q := by
  intro pv σ G H R vs A rv k
  obtain ⟨i, j, rfl, q⟩ := h
  obtain ⟨v, u, rfl, r1, r2⟩ := rvAll2 rv
  rw [r1.int, r2.int]
  exact ⟨i, j, rfl, k _ _ G H τ n A (Ex.refl _) (rv_int _) q⟩
theorem ex_max2 {p : Pos} (hc : C.X.calm = true) (hz : Bl C.X "max") (h : EA C τ n [e, a] fun xs τ1 n1 => ∃ i j, xs = [aI i, aI j] ∧ Q (aI (if j > i then j else i)) τ1 n1)
    (he : starEach [e, a] C.X.env = (false, eval e C.X.env) :: starEach [a] C.X.env := by rfl) (hpl : (backTo pos (starEach [a] C.X.env)).any (·.1) = false := by rfl) : EX C τ n (.Call (.Name "max" p) [e, a] [] pos) Q :=
  ex_callB (id := "max") (call_max2 hc) hz boot_max1 (fun pv σ G H R A k => h pv σ G H R A fun vs xs G' H' τ' n' A' e' r q => k vs xs G' H' τ' n' A' e' r (rc_max2 q)) (by decide) (by decide) he hpl
/-! isinstance -/
def tyD : Av → String
  | .d .none => "NoneType"
  | .d (.bool _) => "bool"
  | .d (.int _) => "int"
  | .d (.str _) => "str"
  | .d (.list _) => "list"
  | .d (.tuple _) => "tuple"
  | .d (.dict _) => "dict"
  | .dc _ => "dict"
  | .sc _ => "list"
  | .ex _ _ => "NoneType"
  | .pu => "list"
  | .pc => "list"
def noEx : Av → Bool
  | .ex _ _ => false
  | _ => true
def isiD (x : Av) (T : String) : Bool := tyD x == T || (tyD x == "bool" && T == "int")
end
end M

set_option Elab.async false
set_option linter.all false
set_option maxRecDepth 100000
set_option maxHeartbeats 4000000
namespace M
open PySem PySem.Spec PyProof.Rows L2
section
variable {C : Cn} {τ : List Sl} {n : Nat} {e a b c : Expr} {es : List Expr} {pos : Pos} {Q : Av → List Sl → Nat → Prop} {QT : Bool → List Sl → Nat → Prop} {x y : Av} {xs : List Av}
/-! ### isinstance -/
abbrev tys : List String := ["NoneType", "bool", "int", "str", "list", "tuple", "dict"]
structure Kit (T : String) (z : Str) : Prop where
  kit : (tys.all fun s => kitB s T == some (s == T || (s == "bool" && T == "int"))) = true
  boot : bootBuiltins z = some (.type T)
  nn : z ≠ "__name__"
  nd : (z == ("__debug__" : Str)) = false
theorem kit_int : Kit "int" "int" := ⟨by decide +kernel, by decide +kernel, by decide +kernel, by decide +kernel⟩
theorem kit_bool : Kit "bool" "bool" := ⟨by decide +kernel, by decide +kernel, by decide +kernel, by decide +kernel⟩
theorem kit_list : Kit "list" "list" := ⟨by decide +kernel, by decide +kernel, by decide +kernel, by decide +kernel⟩
theorem kit_tuple : Kit "tuple" "tuple" := ⟨by decide +kernel, by decide +kernel, by decide +kernel, by decide +kernel⟩
theorem kit_str : Kit "str" "str" := ⟨by decide +kernel, by decide +kernel, by decide +kernel, by decide +kernel⟩
theorem tyD_mem (x : Av) : tyD x ∈ tys := by
  cases x with
  | d d => cases d <;> simp [tyD]
  | pu => simp [tyD]
  | pc => simp [tyD]
  | dc k => simp [tyD]
  | sc k => simp [tyD]
  | ex k _ => simp [tyD]
theorem Kit.of {T : String} {z : Str} (k : Kit T z) (x : Av) : kitB (tyD x) T = some (isiD x T) := by
  have h := List.all_eq_true.mp k.kit (tyD x) (tyD_mem x)
  exact beq_iff_eq.mp h
theorem tyx_lst {K : PySem.W.Frag} {H : Hp} {a : Addr} {xs : List V} (h : SqL K H a xs) : TyX K H (.ref a) (.type "list") := by
  rcases h with (h | ⟨o, h⟩) | ⟨o, its, m, h, hc, _⟩
  · exact .base (.lst h)
  · exact .base (.frz h)
  · exact .kList h hc
theorem tyx_tup {K : PySem.W.Frag} {H : Hp} {a : Addr} {xs : List V} (h : SqT K H a xs) : TyX K H (.ref a) (.type "tuple") := by
  rcases h with (h | ⟨o, h⟩) | ⟨o, its, m, h, hc, _⟩
  · exact .base (.tup h)
  · exact .fTuple h
  · exact .kTuple h hc
theorem tyX_of {W : Wo} {H G : Hp} {n : Nat} {v : V} (w : WI W n H) (e : Ex G H) (r : Rv W G v x) (hx : noEx x = true) : TyX W.K H v (.type (tyD x)) := by
  cases x with
  | d d =>
    cases d with
    | none => rw [r.none]; exact .base .non
    | bool b => rw [r.bool]; exact .base (.bl b)
    | int i => rw [r.int]; exact .base (.int i)
    | str z => rw [r.str]; exact .base (.str z)
    | list ds => obtain ⟨p, ys, rfl, h, _⟩ := r.list; exact .base (.lst (e _ _ h))
    | tuple ds => obtain ⟨p, ys, rfl, h, _⟩ := r.tuple; exact tyx_tup (ex_t e h)
    | dict k => have r : Dt _ G v (.dict k) := r; cases r
  | pu =>
    obtain ⟨p, hp, rfl⟩ := r
    obtain ⟨_, cells, t, e1, _⟩ := w.2 p hp
    exact .base (.lst e1)
  | pc =>
    obtain ⟨p, hp, rfl⟩ := r
    obtain ⟨_, cells, t, _, e2, _⟩ := w.2 p hp
    exact .base (.lst e2)
  | dc k =>
    obtain ⟨p, rfl, h⟩ := r
    exact .base (.dK (e _ _ h))
  | sc k =>
    obtain ⟨p, rfl, h⟩ := r
    exact tyx_lst (ex_l e h)
  | ex k _ => cases hx
theorem ex_isi {p p2 : Pos} {T : String} {z : Str} (kt : Kit T z) (hz : Bl C.X "isinstance") (hT : Bl C.X z) (h : EX C τ n e fun x τ1 n1 => noEx x = true ∧ Q (aB (isiD x T)) τ1 n1)
    (he : starEach [e, .Name z p2] C.X.env = (false, eval e C.X.env) :: starEach [.Name z p2] C.X.env := by rfl)
    (he2 : starEach [.Name z p2] C.X.env = (false, eval (.Name z p2) C.X.env) :: starEach [] C.X.env := by rfl) (hpl : (backTo pos (starEach [.Name z p2] C.X.env)).any (·.1) = false := by rfl) :
    EX C τ n (.Call (.Name "isinstance" p) [e, .Name z p2] [] pos) Q := by
  intro pv σ G H R A k
  refine re_of (pe_callB (id := "isinstance") call_isi hz.hg hz.hm boot_isi1 (pa_cons pe_re (pa_cons (pe_bltn (v := .ty T) hT.hg hT.hm kt.boot rfl kt.nn kt.nd) pa_nil he2) he) (by decide) (by decide) he hpl) ?_
  refine h pv σ G H _ A fun v x G1 H1 τ1 n1 A1 e1 r1 ⟨hx, q⟩ => ?_
  exact ⟨v, .ty T, .type (tyD x), .type T, isiD x T, rfl, .ty T, tyX_of A1.wi A1.gh r1 hx, kit_ty (kt.of x), k _ _ G1 H1 τ1 n1 A1 e1 (rv_bool _) q⟩
/-! ### methods -/
/-- xs.index(y), dints -/
theorem ex_index {apos : Pos} (h : EX C τ n a fun x τ1 n1 => ∃ ns, x = aL ns ∧ EX C τ1 n1 e fun y τ2 n2 => ∃ i j, y = aI i ∧ ns[j]? = some i ∧ (∀ m, m < j → ns[m]? ≠ some i) ∧ Q (aI (j : Nat)) τ2 n2)
    (hbase : attributeBase a "index" C.X.env (eval a C.X.env) = eval a C.X.env := by rfl)
    (hfew : ((backTo pos (starEach [e] C.X.env)).all (fun x => !x.1) && (backToKw pos (keywordEach [] C.X.env)).all (fun x => x.1.isSome)
      && decide (([e] : List Expr).length + ([] : List Keyword).length + (if ([] : List Keyword).isEmpty then 0 else 1) < 30)) = true := by rfl)
    (hline : (apos.endLine == pos.line) = true := by rfl) (hs : starEach [e] C.X.env = (false, eval e C.X.env) :: starEach [] C.X.env := by rfl) :
    EX C τ n (.Call (.Attribute a "index" apos) [e] [] pos) Q := by
  intro pv σ G H R A k
  refine re_of (pe_bm PySem.F.plainAttrs_list PySem.F.slot_list_index PySem.F.type_list_index mt_index pe_re (pa_cons pe_re pa_nil hs) hbase hfew hline hs (by rfl)) ?_
  refine h pv σ G H _ A fun v x G1 H1 τ1 n1 A1 e1 r1 ⟨ns, ex, h1⟩ => ?_
  subst ex
  obtain ⟨l, ys, rfl, hl, d1⟩ := r1.list
  have e' := dpa_ints d1
  subst e'
  refine ⟨.inl ⟨rfl, _, SqL.of (A1.gh _ _ hl)⟩, ?_⟩
  refine h1 pv σ G1 H1 _ A1 fun u y G2 H2 τ2 n2 A2 e2 r2 ⟨i, j, ey, hj, hno, q⟩ => ?_
  subst ey
  rw [r2.int]
  refine ⟨l, ns.map V.int, .int i, j, .int i, rfl, rfl, SqL.of (A2.gh _ _ (e2 _ _ hl)), rfl, flat_ints ns, by rw [List.getElem?_map, hj]; rfl, by show (i == i) = true; simp, fun m z hm hz => ?_, k _ _ G2 H2 τ2 n2 A2 (e1.trans e2) (rv_int _) q⟩
  rw [List.getElem?_map] at hz
  cases hq : ns[m]? with
  | none => rw [hq] at hz; cases hz
  | some w =>
    rw [hq] at hz
    cases hz
    show (w == i) = false
    have : w ≠ i := fun z => hno m hm (by rw [hq, z])
    simpa using this
/-- own.pop(i) -/
theorem ex_popO {apos p : Pos} {i : Nat} {z : Str} {ds : List PyData} (hz : Nm C.X i z) (ht : τ[i]? = some (.ow ds))
    (h : EX C τ n e fun y τ1 n1 => ∃ ds' j k d, τ1[i]? = some (.ow ds') ∧ y = aI j ∧ -(2 ^ 63) ≤ j ∧ j < 2 ^ 63 ∧ seqIndex? j ds'.length = some k ∧ ds'[k]? = some d ∧ Q (.d d) (τ1.set i (.ow (ds'.eraseIdx k))) n1)
    (hbase : attributeBase (.Name z p) "pop" C.X.env (eval (.Name z p) C.X.env) = eval (.Name z p) C.X.env := by rfl)
    (hfew : ((backTo pos (starEach [e] C.X.env)).all (fun x => !x.1) && (backToKw pos (keywordEach [] C.X.env)).all (fun x => x.1.isSome)
      && decide (([e] : List Expr).length + ([] : List Keyword).length + (if ([] : List Keyword).isEmpty then 0 else 1) < 30)) = true := by rfl)
    (hline : (apos.endLine == pos.line) = true := by rfl) (hs : starEach [e] C.X.env = (false, eval e C.X.env) :: starEach [] C.X.env := by rfl) :
    EX C τ n (.Call (.Attribute (.Name z p) "pop" apos) [e] [] pos) Q := by
  intro pv σ G H R A k
  refine re_of (pe_bm PySem.F.plainAttrs_list PySem.F.slot_list_pop PySem.F.type_list_pop mt_popAt (pe_var hz.hN hz.hv hz.hd hz.hc) (pa_cons pe_re pa_nil hs) hbase hfew hline hs (by rfl)) ?_
  obtain ⟨q, xs, e1, e2, _⟩ := A.ow i ds ht
  refine ⟨_, e1, .inl ⟨rfl, _, SqL.of e2⟩, ?_⟩
  refine h pv σ G H _ A fun u y G1 H1 τ1 n1 A1 e3 r1 ⟨ds', j, kk, d, ht1, ey, b1, b2, hk, hd, qq⟩ => ?_
  subst ey
  obtain ⟨q', ys, e1', e2', d1, _⟩ := A1.ow i ds' ht1
  rw [e1] at e1'
  cases e1'
  obtain ⟨w, h2, r2⟩ := dpa_get d1 hd
  rw [r1.int]
  exact ⟨q, ys, j, kk, w, rfl, rfl, e2', b1, b2, by rw [dpa_len d1]; exact hk, h2, k _ _ _ _ _ n1 (A1.mut ht1 e1 (dpa_erase kk d1)) e3 (show Rv C.WK G1 w (.d d) from r2) qq⟩

/-! ### what is walked -/
def RI (X : Cx) (tg iter : Expr) : TI := fun σ H R => ∀ (pins : List (Addr × Obj)) (s : Shared), Inv X pins σ H s →
  wpAny (model X.prog X.w) X.A (eval iter X.env) (fun v s1 => wpAny (model X.prog X.w) X.A (pyIter v) (PIE X pins σ tg R) X.xe s1) X.xe s
theorem pi_ri {X : Cx} {tg iter : Expr} : PI X tg iter (RI X tg iter) := ⟨fun pins s σ H R I h => h pins s I⟩
theorem ri_of {X : Cx} {tg iter : Expr} {t : TI} (h : PI X tg iter t) {σ : L2.St} {H : Hp} {R : It → Hp → Prop} (q : t σ H R) : RI X tg iter σ H R := fun pins s I => h.run pins s σ H R I q
structure SeqOk (C : Cn) (J : It) (G : Hp) (ds : List PyData) : Prop where
  go : ∀ pv σ G1 H1 τ n (i : Nat) d, C.As pv σ G1 H1 τ n → Ex G G1 → ds[i]? = some d → J.go i H1 ∧ ∀ x H', J.yld i H1 x H' → ∃ G', C.As pv σ G' H' τ n ∧ Ex G1 G' ∧ Dt C.X.K G' x d
  stop : ∀ pv σ G1 H1 τ n (i : Nat), C.As pv σ G1 H1 τ n → Ex G G1 → ds.length ≤ i → J.stop i H1
def EI (C : Cn) (τ : List Sl) (n : Nat) (tg iter : Expr) (QI : List PyData → List Sl → Nat → Prop) : Prop := ∀ pv σ G H (R : It → Hp → Prop), C.As pv σ G H τ n →
  (∀ J ds G' H' τ' n', C.As pv σ G' H' τ' n' → Ex G G' → SeqOk C J G' ds → QI ds τ' n' → R J H') → RI C.X tg iter σ H R
variable {tg : Expr} {QI : List PyData → List Sl → Nat → Prop}
theorem seq_list {G : Hp} {p : Addr} {xs : List V} {ds : List PyData} (h : G p = some (.lst xs)) (d : DtAll C.X.K G xs ds) : SeqOk C (Itl C.X.K p) G ds where
  go := fun pv σ G1 H1 τ n i d' A e hi => by
    obtain ⟨v, h1, r⟩ := dpa_get d hi
    have hs : SqL C.X.K H1 p xs := SqL.of (A.gh _ _ (e _ _ h))
    refine ⟨⟨xs, v, hs, h1⟩, fun x H' y => ?_⟩
    obtain ⟨rfl, y⟩ := y
    have := y xs hs
    rw [h1] at this
    cases this
    exact ⟨G1, A, Ex.refl _, dp_ex e _ _ r⟩
  stop := fun pv σ G1 H1 τ n i A e hi => ⟨xs, SqL.of (A.gh _ _ (e _ _ h)), by rw [dpa_len d]; exact hi⟩
theorem ei_list (h : EX C τ n e fun x τ1 n1 => ∃ ds, x = .d (.list ds) ∧ QI ds τ1 n1) : EI C τ n tg e QI := by
  intro pv σ G H R A k
  refine ri_of (pi_list pe_re) ?_
  refine h pv σ G H _ A fun v x G1 H1 τ1 n1 A1 e1 r1 ⟨ds, ex, q⟩ => ?_
  subst ex
  obtain ⟨l, ys, rfl, hl, d1⟩ := r1.list
  exact ⟨l, rfl, ⟨ys, SqL.of (A1.gh _ _ hl)⟩, k _ _ G1 H1 τ1 n1 A1 e1 (seq_list hl d1) q⟩
theorem ei_tup (h : EX C τ n e fun x τ1 n1 => ∃ ds, x = .d (.tuple ds) ∧ QI ds τ1 n1) : EI C τ n tg e QI := by
  intro pv σ G H R A k
  refine ri_of (pi_tup pe_re) ?_
  refine h pv σ G H _ A fun v x G1 H1 τ1 n1 A1 e1 r1 ⟨ds, ex, q⟩ => ?_
  subst ex
  obtain ⟨l, ys, rfl, hl, d1⟩ := r1.tuple
  refine ⟨l, rfl, ⟨ys, ex_t A1.gh hl⟩, k _ _ G1 H1 τ1 n1 A1 e1 ⟨fun pv σ G2 H2 τ n i d' A e hi => ?_, fun pv σ G2 H2 τ n i A e hi => ⟨ys, ex_t A.gh (ex_t e hl), by rw [dpa_len d1]; exact hi⟩⟩ q⟩
  obtain ⟨v, h1, r⟩ := dpa_get d1 hi
  have hs : SqT C.X.K H2 l ys := ex_t A.gh (ex_t e hl)
  refine ⟨⟨ys, v, hs, h1⟩, fun x H' y => ?_⟩
  obtain ⟨rfl, y⟩ := y
  have := y ys hs
  rw [h1] at this
  cases this
  exact ⟨G2, A, Ex.refl _, dp_ex e _ _ r⟩
/-- lo, lo + 1, .. -/
def rangeD (lo : Int) (m : Nat) : List PyData := (List.range m).map fun i : Nat => PyData.int (lo + (i : Int))
theorem rangeD_len (lo : Int) (m : Nat) : (rangeD lo m).length = m := by simp [rangeD]
theorem rangeD_get {lo : Int} {m i : Nat} {d : PyData} (h : (rangeD lo m)[i]? = some d) : i < m ∧ d = .int (lo + (i : Int)) := by
  unfold rangeD at h
  rw [List.getElem?_map] at h
  by_cases hi : i < m
  · rw [List.getElem?_range hi] at h
    cases h
    exact ⟨hi, rfl⟩
  · rw [List.getElem?_eq_none (by simpa using hi)] at h
    cases h
theorem seq_range {G : Hp} {lo : Int} {m : Nat} : SeqOk C (Itr lo m) G (rangeD lo m) where
  go := fun pv σ G1 H1 τ n i d' A e hi => by
    obtain ⟨h1, rfl⟩ := rangeD_get hi
    refine ⟨h1, fun x H' y => ?_⟩
    obtain ⟨rfl, rfl⟩ := y
    exact ⟨G1, A, Ex.refl _, .int _⟩
  stop := fun pv σ G1 H1 τ n i A e hi => by rw [rangeD_len] at hi; exact hi
theorem ei_range1 {p : Pos} (hz : Bl C.X "range") (h : EA C τ n [e] fun xs τ1 n1 => ∃ j, xs = [aI j] ∧ -(2 ^ 62) ≤ j ∧ j < 2 ^ 62 ∧ QI (rangeD 0 j.toNat) τ1 n1)
    (hs : starEach [e] C.X.env = [(false, eval e C.X.env)] := by rfl) : EI C τ n tg (.Call (.Name "range" p) [e] [] pos) QI := by
  intro pv σ G H R A k
  refine ri_of (pi_range1 hz.hg hz.hm pa_ra hs) ?_
  refine h pv σ G H _ A fun vs xs G1 H1 τ1 n1 A1 e1 r1 ⟨j, ex, b1, b2, q⟩ => ?_
  subst ex
  obtain ⟨v, rfl, r⟩ := rvAll1 r1
  rw [r.int]
  exact ⟨j, rfl, b1, b2, k _ _ G1 H1 τ1 n1 A1 e1 seq_range q⟩
theorem ei_range2 {p : Pos} (hz : Bl C.X "range") (h : EA C τ n [e, a] fun xs τ1 n1 => ∃ i j, xs = [aI i, aI j] ∧ (-(2 ^ 62) ≤ i ∧ i < 2 ^ 62 ∧ -(2 ^ 62) ≤ j ∧ j < 2 ^ 62) ∧ QI (rangeD i (j - i).toNat) τ1 n1)
    (hs : starEach [e, a] C.X.env = [(false, eval e C.X.env), (false, eval a C.X.env)] := by rfl) (hs2 : starEach [a] C.X.env = [(false, eval a C.X.env)] := by rfl) : EI C τ n tg (.Call (.Name "range" p) [e, a] [] pos) QI := by
  intro pv σ G H R A k
  refine ri_of (pi_range2 hz.hg hz.hm pa_ra hs hs2) ?_
  refine h pv σ G H _ A fun vs xs G1 H1 τ1 n1 A1 e1 r1 ⟨i, j, ex, b, q⟩ => ?_
  subst ex
  obtain ⟨v, u, rfl, r, r'⟩ := rvAll2 r1
  rw [r.int, r'.int]
  exact ⟨i, j, rfl, b, k _ _ G1 H1 τ1 n1 A1 e1 seq_range q⟩
theorem ei_enum {p tpos : Pos} {elts : List Expr} {kk : Nat} (hz : Bl C.X "enumerate") (h : EA C τ n [e] fun xs τ1 n1 => ∃ ds, xs = [.d (.list ds)] ∧ QI (ds.zipIdx.map fun p => PyData.tuple [.int (p.2 : Nat), p.1]) τ1 n1)
    (hs : starEach [e] C.X.env = [(false, eval e C.X.env)] := by rfl) : EI C τ n (.Tuple elts kk tpos) (.Call (.Name "enumerate" p) [e] [] pos) QI := by
  intro pv σ G H R A k
  refine ri_of (pi_enum hz.hg hz.hm pa_ra hs) ?_
  refine h pv σ G H _ A fun vs xs G1 H1 τ1 n1 A1 e1 r1 ⟨ds, ex, q⟩ => ?_
  subst ex
  obtain ⟨v, rfl, r⟩ := rvAll1 r1
  obtain ⟨l, ys, rfl, hl, d1⟩ := r.list
  refine ⟨l, ys, rfl, SqL.of (A1.gh _ _ hl), k _ _ G1 H1 τ1 n1 A1 e1 ⟨fun pv σ G2 H2 τ n i d' A e hi => ?_, fun pv σ G2 H2 τ n i A e hi => ⟨ys, SqL.of (A.gh _ _ (e _ _ hl)), ?_⟩⟩ q⟩
  · rw [List.getElem?_map, List.getElem?_zipIdx] at hi
    cases hq : ds[i]? with
    | none => rw [hq] at hi; cases hi
    | some d =>
      rw [hq] at hi
      have hi : PyData.tuple [.int ((0 + i : Nat) : Int), d] = d' := Option.some.inj hi
      rw [Nat.zero_add] at hi
      subst hi
      obtain ⟨v, h1, r⟩ := dpa_get d1 hq
      have hsq : SqL C.X.K H2 l ys := SqL.of (A.gh _ _ (e _ _ hl))
      refine ⟨⟨ys, v, hsq, h1⟩, fun x H' y => ?_⟩
      obtain ⟨T, w, rfl, hT, rfl, y⟩ := y
      have := y ys hsq
      rw [h1] at this
      cases this
      have ex : Ex G2 (upd G2 T (.tup [.int (i : Int), v])) := Ex.new (A.freshG hT)
      exact ⟨_, A.new hT, ex, .tup (SqT.of upd_same) (.cons (.int _) (.cons (dp_ex (e.trans ex) _ _ r) .nil))⟩
  · simp at hi
    rw [dpa_len d1]; exact hi
theorem ei_rev {p : Pos} (hz : Bl C.X "reversed") (h : EA C τ n [e] fun xs τ1 n1 => ∃ ds, xs = [.d (.list ds)] ∧ QI ds.reverse τ1 n1)
    (hs : starEach [e] C.X.env = [(false, eval e C.X.env)] := by rfl) : EI C τ n tg (.Call (.Name "reversed" p) [e] [] pos) QI := by
  intro pv σ G H R A k
  refine ri_of (pi_reversed hz.hg hz.hm pa_ra hs) ?_
  refine h pv σ G H _ A fun vs xs G1 H1 τ1 n1 A1 e1 r1 ⟨ds, ex, q⟩ => ?_
  subst ex
  obtain ⟨v, rfl, r⟩ := rvAll1 r1
  obtain ⟨l, ys, rfl, hl, d1⟩ := r.list
  refine ⟨l, ys, rfl, SqL.of (A1.gh _ _ hl), k _ _ G1 H1 τ1 n1 A1 e1 ⟨fun pv σ G2 H2 τ n i d' A e hi => ?_, fun pv σ G2 H2 τ n i A e hi => ?_⟩ q⟩
  · have hlt : i < ds.length := by
      have := (List.getElem?_eq_some_iff.mp hi).1
      simpa using this
    have hlen := dpa_len d1
    rw [List.getElem?_reverse hlt] at hi
    obtain ⟨v, h1, r⟩ := dpa_get d1 hi
    have hsq : SqL C.X.K H2 l ys := SqL.of (A.gh _ _ (e _ _ hl))
    rw [← hlen] at h1
    refine ⟨⟨by rw [hlen]; exact hlt, ys, v, hsq, h1⟩, fun x H' y => ?_⟩
    obtain ⟨rfl, y⟩ := y
    have := y ys hsq
    rw [h1] at this
    cases this
    exact ⟨G2, A, Ex.refl _, dp_ex e _ _ r⟩
  · show ys.length ≤ i
    rw [dpa_len d1]
    simpa using hi

/-! ### targets -/
def RG (X : Cx) (tg : Expr) : TG := fun v σ H Q => ∀ (pins : List (Addr × Obj)) (s : Shared) (u : Value), Inv X pins σ H s → RelV v u →
  wpAny (model X.prog X.w) X.A (assign tg X.env u) (fun _ s' => ∃ σ' H', Inv X pins σ' H' s' ∧ Q σ' H') X.xe s
theorem pg_rg {X : Cx} {tg : Expr} : PG X tg (RG X tg) := ⟨fun pins s σ H v u Q I r h => h pins s u I r⟩
theorem rg_of {X : Cx} {tg : Expr} {t : TG} (h : PG X tg t) {v : V} {σ : L2.St} {H : Hp} {Q : L2.St → Hp → Prop} (q : t v σ H Q) : RG X tg v σ H Q := fun pins s u I r => h.run pins s σ H v u Q I r q
structure Tg (X : Cx) (tg : Expr) (vs : List Nat) (Ok : PyData → Prop) (set : PyData → List Sl → List Sl) : Prop where
  run : ∀ (W : Wo) (G0 H0 : Hp) pv σ G H τ n v d (R : L2.St → Hp → Prop), W.K = X.K → As W G0 H0 pv σ G H τ n → Dt W.K G v d → Ok d →
    (∀ σ', As W G0 H0 pv σ' G H (set d τ) n → wipe σ' vs = wipe σ vs → (∀ i, i ∉ vs → σ'[i]? = σ[i]?) → R σ' H) → RG X tg v σ H R
theorem tg_name {X : Cx} {i : Nat} {z : Str} {p : Pos} (nd : X.N.Nodup) (h : Lm X i z) : Tg X (.Name z p) [i] (fun _ => True) (fun d τ => τ.set i (.st (.d d))) := by
  refine ⟨fun W G0 H0 pv σ G H τ n v d R hK A r _ k => rg_of (pg_name nd h.hN h.hl h.hf) ?_⟩
  refine k _ (A.put i (x := .d d) r) ?_ fun j hj => ?_
  · show (σ.set i (some v)).set i none = σ.set i none
    rw [List.set_set]
  · rw [List.getElem?_set_ne (fun z => hj (by simp [z]))]
def prj (d : PyData) (k : Nat) : PyData := match d with
  | .tuple ds => ds.getD k .none
  | .list ds => ds.getD k .none
  | _ => .none
theorem tg_tup2 {X : Cx} {i j : Nat} {z y : Str} {p p2 p3 : Pos} {kk : Nat} (hc : X.calm = true) (nd : X.N.Nodup) (h : Lm X i z) (h2 : Lm X j y)
    (hs : (assignEach [.Name z p, .Name y p2] X.env).map (·.2) = assign (.Name z p) X.env :: (assignEach [.Name y p2] X.env).map (·.2) := by rfl)
    (hs2 : (assignEach [.Name y p2] X.env).map (·.2) = assign (.Name y p2) X.env :: (assignEach [] X.env).map (·.2) := by rfl)
    (hn : (assignEach [.Name z p, .Name y p2] X.env).length = 2 := by rfl) (hst : (assignEach [.Name z p, .Name y p2] X.env).findIdx? (·.1) = none := by rfl) :
    Tg X (.Tuple [.Name z p, .Name y p2] kk p3) [i, j] (fun d => ∃ d1 d2, d = .tuple [d1, d2]) (fun d τ => (τ.set i (.st (.d (prj d 0)))).set j (.st (.d (prj d 1)))) := by
  refine ⟨fun W G0 H0 pv σ G H τ n v d R hK A r ⟨d1, d2, ed⟩ k => ?_⟩
  subst ed
  have r' : Rv W G v (.d (.tuple [d1, d2])) := r
  obtain ⟨l, ys, rfl, hl, dd⟩ := r'.tuple
  cases dd with
  | @cons v1 _ _ _ a1 dd =>
    cases dd with
    | @cons v2 _ _ _ a2 dd =>
      cases dd
      refine rg_of (pg_tup (n := 2) hc (pgs_cons (pg_name nd h.hN h.hl h.hf) (pgs_cons (pg_name nd h2.hN h2.hl h2.hf) pgs_nil hs2) hs) hn hst) ?_
      refine ⟨l, _, rfl, hK ▸ ex_t A.gh hl, rfl, v1, _, rfl, v2, _, rfl, rfl, ?_⟩
      refine k _ ((A.put i (x := .d d1) a1).put j (x := .d d2) a2) ?_ fun m hm => ?_
      · show ((((σ.set i (some v1)).set j (some v2)).set j none).set i none) = (σ.set j none).set i none
        rw [List.set_set]
        by_cases hij : i = j
        · subst hij; simp [List.set_set]
        · rw [List.set_comm _ _ hij, List.set_set]
      · simp only [List.mem_cons, List.mem_nil_iff, or_false, not_or] at hm
        rw [List.getElem?_set_ne (fun z => hm.2 z.symm), List.getElem?_set_ne (fun z => hm.1 z.symm)]
theorem tg_tup3 {X : Cx} {i j l : Nat} {z y w : Str} {p p2 p3 p4 : Pos} {kk : Nat} (hc : X.calm = true) (nd : X.N.Nodup) (h : Lm X i z) (h2 : Lm X j y) (h3 : Lm X l w)
    (hs : (assignEach [.Name z p, .Name y p2, .Name w p4] X.env).map (·.2) = assign (.Name z p) X.env :: (assignEach [.Name y p2, .Name w p4] X.env).map (·.2) := by rfl)
    (hs2 : (assignEach [.Name y p2, .Name w p4] X.env).map (·.2) = assign (.Name y p2) X.env :: (assignEach [.Name w p4] X.env).map (·.2) := by rfl)
    (hs3 : (assignEach [.Name w p4] X.env).map (·.2) = assign (.Name w p4) X.env :: (assignEach [] X.env).map (·.2) := by rfl)
    (hn : (assignEach [.Name z p, .Name y p2, .Name w p4] X.env).length = 3 := by rfl) (hst : (assignEach [.Name z p, .Name y p2, .Name w p4] X.env).findIdx? (·.1) = none := by rfl) :
    Tg X (.Tuple [.Name z p, .Name y p2, .Name w p4] kk p3) [i, j, l] (fun d => ∃ d1 d2 d3, d = .tuple [d1, d2, d3]) (fun d τ => ((τ.set i (.st (.d (prj d 0)))).set j (.st (.d (prj d 1)))).set l (.st (.d (prj d 2)))) := by
  refine ⟨fun W G0 H0 pv σ G H τ n v d R hK A r ⟨d1, d2, d3, ed⟩ k => ?_⟩
  subst ed
  have r' : Rv W G v (.d (.tuple [d1, d2, d3])) := r
  obtain ⟨q, ys, rfl, hl, dd⟩ := r'.tuple
  cases dd with
  | @cons v1 _ _ _ a1 dd =>
    cases dd with
    | @cons v2 _ _ _ a2 dd =>
      cases dd with
      | @cons v3 _ _ _ a3 dd =>
        cases dd
        refine rg_of (pg_tup (n := 3) hc (pgs_cons (pg_name nd h.hN h.hl h.hf) (pgs_cons (pg_name nd h2.hN h2.hl h2.hf) (pgs_cons (pg_name nd h3.hN h3.hl h3.hf) pgs_nil hs3) hs2) hs) hn hst) ?_
        refine ⟨q, _, rfl, hK ▸ ex_t A.gh hl, rfl, v1, _, rfl, v2, _, rfl, v3, _, rfl, rfl, ?_⟩
        refine k _ (((A.put i (x := .d d1) a1).put j (x := .d d2) a2).put l (x := .d d3) a3) ?_ fun m hm => ?_
        · apply List.ext_getElem?
          intro m
          show (((((((σ.set i (some v1)).set j (some v2)).set l (some v3)).set l none).set j none).set i none) : List (Option V))[m]? = (((σ.set l none).set j none).set i none)[m]?
          simp only [List.getElem?_set, List.length_set]
          by_cases h1 : i = m
          · simp [h1]
          · by_cases h2 : j = m
            · simp [h1, h2]
            · by_cases h3 : l = m
              · simp [h1, h2, h3]
              · simp [h1, h2, h3]
        · simp only [List.mem_cons, List.mem_nil_iff, or_false, not_or] at hm
          rw [List.getElem?_set_ne (fun z => hm.2.2 z.symm), List.getElem?_set_ne (fun z => hm.2.1 z.symm), List.getElem?_set_ne (fun z => hm.1 z.symm)]
end
end M

set_option Elab.async false
set_option linter.all false
set_option maxRecDepth 100000
set_option maxHeartbeats 4000000
namespace M
open PySem PySem.Spec PyProof.Rows L2
theorem As.rewind {W : Wo} {G0 H0 : Hp} {pv pv' : Pv} {σ σ' : L2.St} {G H G' H' : Hp} {τ τ' : List Sl} {n n' : Nat} (A : As W G0 H0 pv σ G H τ n) (A' : As W G0 H0 pv' σ' G' H' τ' n') (e : Ex G G')
    (h : ∀ (i : Nat) ds, τ[i]? = some (.ow ds) → τ'[i]? = some (.ow ds) ∧ σ'[i]? = σ[i]?) : As W G0 H0 pv' σ G' H' τ n' := by
  refine ⟨A'.gr, A'.wi, A.len, fun i x q => ?_, fun i ds q => ?_, A.sep, fun p hp => ?_⟩
  · obtain ⟨v, e1, r⟩ := A.st i x q
    exact ⟨v, e1, r.ex e⟩
  · obtain ⟨h1, h2⟩ := h i ds q
    obtain ⟨a, xs, e1, r⟩ := A'.ow i ds h1
    exact ⟨a, xs, by rw [← h2]; exact e1, r⟩
  · obtain ⟨e1, e2, e3, e4, e5⟩ := A'.pr p hp
    refine ⟨e1, e2, e3, e4, fun i ds q => ?_⟩
    obtain ⟨h1, h2⟩ := h i ds q
    rw [← h2]
    exact e5 i ds h1
def wipeS (τ : List Sl) : List Nat → List Sl
  | [] => τ
  | v :: vs => (wipeS τ vs).set v .no
theorem As.wipe {W : Wo} {G0 H0 : Hp} {pv : Pv} {σ : L2.St} {G H : Hp} {τ : List Sl} {n : Nat} (A : As W G0 H0 pv σ G H τ n) : ∀ vs : List Nat, As W G0 H0 pv (wipe σ vs) G H (wipeS τ vs) n
  | [] => A
  | v :: vs => (A.wipe vs).drop v none
theorem wipeS_ne {τ : List Sl} {i : Nat} : ∀ {vs : List Nat}, i ∉ vs → (wipeS τ vs)[i]? = τ[i]?
  | [], _ => rfl
  | v :: vs, h => by
    simp only [List.mem_cons, not_or] at h
    show ((wipeS τ vs).set v .no)[i]? = _
    rw [List.getElem?_set_ne (fun z => h.1 z.symm), wipeS_ne h.2]
theorem wipe_ne {σ : L2.St} {i : Nat} : ∀ {vs : List Nat}, i ∉ vs → (wipe σ vs)[i]? = σ[i]?
  | [], _ => rfl
  | v :: vs, h => by
    simp only [List.mem_cons, not_or] at h
    show ((wipe σ vs).set v none)[i]? = _
    rw [List.getElem?_set_ne (fun z => h.1 z.symm), wipe_ne h.2]

theorem wipe_in {σ : L2.St} {i : Nat} : ∀ {vs : List Nat}, i ∈ vs → i < σ.length → (wipe σ vs)[i]? = some none
  | v :: vs, h, hl => by
    show ((wipe σ vs).set v none)[i]? = _
    by_cases hv : v = i
    · subst hv
      rw [List.getElem?_set_self (by rw [wipe_length]; exact hl)]
    · rw [List.getElem?_set_ne hv]
      rcases List.mem_cons.mp h with z | z
      · exact absurd z.symm hv
      · exact wipe_in z hl
theorem wipe_wipe (σ : L2.St) (vs : List Nat) : wipe (wipe σ vs) vs = wipe σ vs := by
  apply List.ext_getElem?
  intro i
  by_cases hv : i ∈ vs
  · by_cases hl : i < σ.length
    · rw [wipe_in hv (by rw [wipe_length]; exact hl), wipe_in hv hl]
    · rw [List.getElem?_eq_none (by rw [wipe_length, wipe_length]; omega), List.getElem?_eq_none (by rw [wipe_length]; omega)]
  · rw [wipe_ne hv, wipe_ne hv]
section
variable {C : Cn} {τ : List Sl} {n : Nat} {e a b c : Expr} {es : List Expr} {pos : Pos} {Q : Av → List Sl → Nat → Prop} {QT : Bool → List Sl → Nat → Prop} {x y : Av} {xs : List Av} {D : AE}

/-! ### statements -/
theorem sxs_nil (q : D.nx τ n) : SXs C τ n [] D := fun σ G H Dc A k => rss_of pss_nil (k.nx σ G H τ n A (Ex.refl _) q)
theorem sxs_cons {st : Stmt} {rest : List Stmt} (h : SX C τ n st { D with nx := fun τ1 n1 => SXs C τ1 n1 rest D }) : SXs C τ n (st :: rest) D := by
  intro σ G H Dc A k
  refine rss_of (pss_cons ps_rs pss_rs) ?_
  exact h σ G H { Dc with nx := fun σ' H' => RSs C.X rest Dc σ' H' } A ⟨fun σ' G' H' τ' n' A' e' q => q σ' G' H' Dc A' (cor_ex k e'), k.rt, k.bk, k.ct, k.rf⟩
theorem sx_asg {i : Nat} {z : Str} {p : Pos} {ok : C.X.N.Nodup} (hz : Lm C.X i z) (h : EX C τ n e fun x τ1 n1 => D.nx (τ1.set i (.st x)) n1) (hs : swapsWith e (some (.Name z p)) pos.line C.X.env = pure false := by rfl) :
    SX C τ n (.Assign [.Name z p] e pos) D := by
  intro σ G H Dc A k
  refine rs_of (ps_set ok hz.hN hz.hl pe_re hs hz.hf) ?_
  exact h [] σ G H _ A fun v x G' H' τ' n' A' e' r q => k.nx _ G' H' _ n' (A'.put i r) e' q
/-- a fresh list -/
def EF (C : Cn) (τ : List Sl) (n : Nat) (e : Expr) (Q : List PyData → List Sl → Nat → Prop) : Prop := ∀ pv σ G H (R : VK), C.As pv σ G H τ n →
  (∀ p vs ds G' H' τ' n', C.As pv σ G' H' τ' n' → Ex G G' → H' p = none → DtAll C.X.K G' vs ds → Q ds τ' n' → R (.ref p) (upd H' p (.lst vs))) → RE C.X e σ H R
variable {QF : List PyData → List Sl → Nat → Prop}
theorem ef_lst (h : EA C τ n es fun xs τ1 n1 => ∃ ds, unD xs = some ds ∧ ds.length ≤ sizeLine ∧ QF ds τ1 n1) : EF C τ n (.List es pos) QF := by
  intro pv σ G H R A k
  refine re_of (pe_lst pa_ra) ?_
  refine h pv σ G H _ A fun vs xs G1 H1 τ1 n1 A1 e1 r1 ⟨ds, hu, hz, q⟩ => ?_
  have d1 := unD_all r1 hu
  exact ⟨by rw [dpa_len d1]; exact hz, fun p hp => k p vs ds G1 H1 τ1 n1 A1 e1 hp d1 q⟩
theorem ef_list {p : Pos} (hz : Bl C.X "list") (h : EA C τ n (e :: es) fun xs τ1 n1 => ∃ ds, (xs = [.d (.list ds)] ∨ xs = [.d (.tuple ds)]) ∧ QF ds τ1 n1)
    (he : starEach (e :: es) C.X.env = (false, eval e C.X.env) :: starEach es C.X.env := by rfl) (hpl : (backTo pos (starEach es C.X.env)).any (·.1) = false := by rfl) : EF C τ n (.Call (.Name "list" p) (e :: es) [] pos) QF := by
  intro pv σ G H R A k
  refine re_of (pe_callTy (T := "list") call_list_of hz.hg hz.hm boot_list1 pa_ra (by decide) (by decide) he hpl) ?_
  refine h pv σ G H _ A fun vs xs G1 H1 τ1 n1 A1 e1 r1 ⟨ds, hx, q⟩ => ?_
  rcases hx with rfl | rfl
  · obtain ⟨v, rfl, r⟩ := rvAll1 r1
    obtain ⟨m, ys, rfl, h1, d1⟩ := r.list
    exact ⟨m, ys, rfl, .inl (SqL.of (A1.gh _ _ h1)), fun p hp => k p ys ds G1 H1 τ1 n1 A1 e1 hp d1 q⟩
  · obtain ⟨v, rfl, r⟩ := rvAll1 r1
    obtain ⟨m, ys, rfl, h1, d1⟩ := r.tuple
    exact ⟨m, ys, rfl, .inr (ex_t A1.gh h1), fun p hp => k p ys ds G1 H1 τ1 n1 A1 e1 hp d1 q⟩
theorem ef_slice {lo hi : Option Expr} {p2 : Pos} (h : EX C τ n a fun x τ1 n1 => EO C τ1 n1 lo fun l τ2 n2 => EO C τ2 n2 hi fun u τ3 n3 => ∃ ds, x = .d (.list ds) ∧ QF (cutD ds l u) τ3 n3) : EF C τ n (.Subscript a (.Slice lo hi none p2) pos) QF := by
  intro pv σ G H R A k
  refine re_of (pe_slice sl_list pe_re po_ro po_ro) ?_
  refine h pv σ G H _ A fun v x G1 H1 τ1 n1 A1 e1 r1 h1 => ?_
  refine eo_run h1 A1 fun l G2 H2 τ2 n2 A2 e2 h2 => ?_
  refine eo_run h2 A2 fun u G3 H3 τ3 n3 A3 e3 ⟨ds, ex, q⟩ => ?_
  subst ex
  obtain ⟨m, xs, rfl, h1, d1⟩ := (r1.ex (e2.trans e3)).list
  exact ⟨m, xs, rfl, SqL.of (A3.gh _ _ h1), fun p hp => k p _ _ G3 H3 τ3 n3 A3 ((e1.trans e2).trans e3) hp (cut_dt d1 l u) q⟩
theorem ef_cat (h : EX C τ n a fun x τ1 n1 => EX C τ1 n1 b fun y τ2 n2 => ∃ ds es, x = .d (.list ds) ∧ y = .d (.list es) ∧ ds.length + es.length ≤ sizeLine ∧ QF (ds ++ es) τ2 n2) : EF C τ n (.BinOp a .Add b pos) QF := by
  intro pv σ G H R A k
  refine re_of (pe_op op_cat pe_re pe_re) ?_
  refine h pv σ G H _ A fun v x G1 H1 τ1 n1 A1 e1 r1 h1 => ?_
  refine h1 pv σ G1 H1 _ A1 fun u y G2 H2 τ2 n2 A2 e2 r2 ⟨ds, es, ex, ey, hz, q⟩ => ?_
  subst ex ey
  obtain ⟨l, xs, rfl, h1, d1⟩ := (r1.ex e2).list
  obtain ⟨m, ys, rfl, h2, d2⟩ := r2.list
  exact ⟨l, m, xs, ys, rfl, rfl, A2.gh _ _ h1, A2.gh _ _ h2, by rw [dpa_len d1, dpa_len d2]; exact hz, fun p hp => k p _ _ G2 H2 τ2 n2 A2 (e1.trans e2) hp (dpa_app d1 d2) q⟩
/-- a name is given an own list -/
theorem sx_own {i : Nat} {z : Str} {p : Pos} {ok : C.X.N.Nodup} (hz : Lm C.X i z) (h : EF C τ n e fun ds τ1 n1 => D.nx (τ1.set i (.ow ds)) n1) (hs : swapsWith e (some (.Name z p)) pos.line C.X.env = pure false := by rfl) :
    SX C τ n (.Assign [.Name z p] e pos) D := by
  intro σ G H Dc A k
  refine rs_of (ps_set ok hz.hN hz.hl pe_re hs hz.hf) ?_
  exact h [] σ G H _ A fun p vs ds G' H' τ' n' A' e' hp d q => k.nx _ G' _ _ n' (A'.putOw i hp d) e' q
theorem sx_ret (h : EX C τ n e fun x τ1 n1 => D.rt x n1) : SX C τ n (.Return (some e) pos) D := by
  intro σ G H Dc A k
  refine rs_of (ps_ret pe_re) ?_
  exact h [] σ G H _ A fun v x G' H' τ' n' A' e' r q => k.rt v x n' G' H' A'.gr A'.wi r q
theorem sx_retF (h : EF C τ n e fun ds _ n' => D.rf ds n') : SX C τ n (.Return (some e) pos) D := by
  intro σ G H Dc A k
  refine rs_of (ps_ret pe_re) ?_
  exact h [] σ G H _ A fun p vs ds G' H' τ' n' A' e' hp d q => k.rf p vs ds n' G' H' A'.gr A'.wi hp d q
theorem sx_retN (h : D.rt aN n) : SX C τ n (.Return none pos) D := by
  intro σ G H Dc A k
  exact rs_of ps_retN (k.rt _ _ n G H A.gr A.wi rv_none h)
theorem sx_if {s1 s2 : List Stmt} (h : ET C τ n c fun v τ1 n1 => (v = true → SXs C τ1 n1 s1 D) ∧ (v = false → SXs C τ1 n1 s2 D)) : SX C τ n (.If c s1 s2 pos) D := by
  intro σ G H Dc A k
  refine rs_of (ps_if pt_rt pss_rs pss_rs) ?_
  refine h [] σ G H _ A fun v G1 H1 τ1 n1 A1 e1 q => ?_
  cases v with
  | true => exact iteT (q.1 rfl σ G1 H1 Dc A1 (cor_ex k e1))
  | false => exact iteF (q.2 rfl σ G1 H1 Dc A1 (cor_ex k e1))
theorem sx_expr (h : EX C τ n e fun x τ1 n1 => D.nx τ1 n1) (hs : swapsWith e none pos.line C.X.env = pure false := by rfl) : SX C τ n (.Expr e pos) D := by
  intro σ G H Dc A k
  refine rs_of (ps_expr pe_re hs) ?_
  exact h [] σ G H _ A fun v x G' H' τ' n' A' e' r q => k.nx _ G' H' _ n' A' e' q
theorem sx_doc {z : Str} {j : Nat} {p : Pos} (h : D.nx τ n) : SX C τ n (.Expr (.Constant (.str z) j p) pos) D := fun σ G H Dc A k => rs_of ps_doc (k.nx _ G H _ n A (Ex.refl _) h)
theorem sx_pass (h : D.nx τ n) : SX C τ n (.Pass pos) D := fun σ G H Dc A k => rs_of ps_pass (k.nx _ G H _ n A (Ex.refl _) h)
theorem sx_break (h : D.bk τ n) : SX C τ n (.Break pos) D := fun σ G H Dc A k => rs_of ps_break (k.bk _ G H _ n A (Ex.refl _) h)
theorem sx_continue (h : D.ct τ n) : SX C τ n (.Continue pos) D := fun σ G H Dc A k => rs_of ps_continue (k.ct _ G H _ n A (Ex.refl _) h)
/-- own.append(e) -/
theorem sx_append {apos p cpos : Pos} {i : Nat} {z : Str} {ds : List PyData} (hz : Nm C.X i z) (ht : τ[i]? = some (.ow ds))
    (h : EX C τ n e fun y τ1 n1 => ∃ ds' d, τ1[i]? = some (.ow ds') ∧ y = .d d ∧ ds'.length < sizeLine ∧ D.nx (τ1.set i (.ow (ds' ++ [d]))) n1)
    (hbase : attributeBase (.Name z p) "append" C.X.env (eval (.Name z p) C.X.env) = eval (.Name z p) C.X.env := by rfl)
    (hfew : ((backTo cpos (starEach [e] C.X.env)).all (fun x => !x.1) && (backToKw cpos (keywordEach [] C.X.env)).all (fun x => x.1.isSome)
      && decide (([e] : List Expr).length + ([] : List Keyword).length + (if ([] : List Keyword).isEmpty then 0 else 1) < 30)) = true := by rfl)
    (hline : (apos.endLine == cpos.line) = true := by rfl) (hs : starEach [e] C.X.env = (false, eval e C.X.env) :: starEach [] C.X.env := by rfl)
    (hsw : swapsWith (.Call (.Attribute (.Name z p) "append" apos) [e] [] cpos) none pos.line C.X.env = pure false := by rfl) :
    SX C τ n (.Expr (.Call (.Attribute (.Name z p) "append" apos) [e] [] cpos) pos) D := by
  intro σ G H Dc A k
  refine rs_of (ps_expr (pe_bm PySem.F.plainAttrs_list PySem.F.slot_list_append PySem.F.type_list_append mt_append (pe_var hz.hN hz.hv hz.hd hz.hc) (pa_cons pe_re pa_nil hs) hbase hfew hline hs (by rfl)) hsw) ?_
  obtain ⟨q, xs, e1, e2, _⟩ := A.ow i ds ht
  refine ⟨_, e1, .inl ⟨rfl, _, SqL.of e2⟩, ?_⟩
  refine h [] σ G H _ A fun u y G1 H1 τ1 n1 A1 e3 r1 ⟨ds', d, ht1, ey, hz, qq⟩ => ?_
  subst ey
  obtain ⟨q', ys, e1', e2', d1, _⟩ := A1.ow i ds' ht1
  rw [e1] at e1'
  cases e1'
  exact ⟨q, ys, u, rfl, rfl, e2', by rw [dpa_len d1]; exact hz, k.nx _ G1 _ _ n1 (A1.mut ht1 e1 (dpa_app d1 (.cons r1 .nil))) e3 qq⟩
/-- own.insert(i, e) -/
theorem sx_insert {apos p cpos : Pos} {i : Nat} {z : Str} {ds : List PyData} (hz : Nm C.X i z) (ht : τ[i]? = some (.ow ds))
    (h : EX C τ n a fun x τ1 n1 => EX C τ1 n1 e fun y τ2 n2 => ∃ ds' j d, τ2[i]? = some (.ow ds') ∧ x = aI j ∧ y = .d d ∧ ds'.length < sizeLine ∧ 0 ≤ j ∧ j < 2 ^ 63 ∧ D.nx (τ2.set i (.ow (ds'.take j.toNat ++ [d] ++ ds'.drop j.toNat))) n2)
    (hbase : attributeBase (.Name z p) "insert" C.X.env (eval (.Name z p) C.X.env) = eval (.Name z p) C.X.env := by rfl)
    (hfew : ((backTo cpos (starEach [a, e] C.X.env)).all (fun x => !x.1) && (backToKw cpos (keywordEach [] C.X.env)).all (fun x => x.1.isSome)
      && decide (([a, e] : List Expr).length + ([] : List Keyword).length + (if ([] : List Keyword).isEmpty then 0 else 1) < 30)) = true := by rfl)
    (hline : (apos.endLine == cpos.line) = true := by rfl) (hs : starEach [a, e] C.X.env = (false, eval a C.X.env) :: starEach [e] C.X.env := by rfl) (hs2 : starEach [e] C.X.env = (false, eval e C.X.env) :: starEach [] C.X.env := by rfl)
    (hpl : (backTo cpos (starEach [e] C.X.env)).any (·.1) = false := by rfl)
    (hsw : swapsWith (.Call (.Attribute (.Name z p) "insert" apos) [a, e] [] cpos) none pos.line C.X.env = pure false := by rfl) :
    SX C τ n (.Expr (.Call (.Attribute (.Name z p) "insert" apos) [a, e] [] cpos) pos) D := by
  intro σ G H Dc A k
  refine rs_of (ps_expr (pe_bm PySem.F.plainAttrs_list PySem.F.slot_list_insert PySem.F.type_list_insert mt_insert (pe_var hz.hN hz.hv hz.hd hz.hc) (pa_cons pe_re (pa_cons pe_re pa_nil hs2) hs) hbase hfew hline hs hpl) hsw) ?_
  obtain ⟨q, xs, e1, e2, _⟩ := A.ow i ds ht
  refine ⟨_, e1, .inl ⟨rfl, _, SqL.of e2⟩, ?_⟩
  refine h [] σ G H _ A fun v x G1 H1 τ1 n1 A1 e3 r1 h1 => ?_
  refine h1 [] σ G1 H1 _ A1 fun u y G2 H2 τ2 n2 A2 e4 r2 ⟨ds', j, d, ht1, ex, ey, hz, b0, b1, qq⟩ => ?_
  subst ex ey
  obtain ⟨q', ys, e1', e2', d1, _⟩ := A2.ow i ds' ht1
  rw [e1] at e1'
  cases e1'
  rw [r1.int]
  exact ⟨q, ys, j, u, rfl, rfl, e2', by rw [dpa_len d1]; exact hz, b0, b1, k.nx _ G2 _ _ n2 (A2.mut ht1 e1 (dpa_app (dpa_app (dpa_take _ d1) (.cons r2 .nil)) (dpa_drop _ d1))) (e3.trans e4) qq⟩
/-- own.pop() and the like is an expression; a freeze -/
theorem sxs_freeze {st : List Stmt} {i : Nat} {ds : List PyData} (ht : τ[i]? = some (.ow ds)) (h : SXs C (τ.set i (.st (.d (.list ds)))) n st D) : SXs C τ n st D := by
  intro σ G H Dc A k
  obtain ⟨G', ex, A'⟩ := A.freeze ht
  exact h σ G' H Dc A' (cor_ex k ex)
/-- x += e, ints -/
theorem sx_aug {op : Operator} {f : Int → Int → Int} {i : Nat} {z : Str} {p : Pos} {ok : C.X.N.Nodup} (hop : PIp C.X op (ipI f)) (hz : Lm C.X i z) {j : Int} (ht : τ[i]? = some (.st (aI j)))
    (h : EX C τ n e fun y τ1 n1 => ∃ m, y = aI m ∧ D.nx (τ1.set i (.st (aI (f j m)))) n1) : SX C τ n (.AugAssign (.Name z p) op e pos) D := by
  intro σ G H Dc A k
  refine rs_of (ps_aug ok hz.hN hz.hl pe_re hop hz.hf) ?_
  obtain ⟨v, e1, r⟩ := A.st i _ ht
  refine ⟨v, e1, ?_⟩
  refine h [] σ G H _ A fun u y G1 H1 τ1 n1 A1 e3 r1 ⟨m, ey, q⟩ => ?_
  subst ey
  exact ⟨j, m, r.int, r1.int, k.nx _ G1 H1 _ n1 (A1.put i (rv_int _)) e3 q⟩
/-- t1 = t2 = e -/
theorem sx_asg2 {i j : Nat} {z w : Str} {p p2 : Pos} {ok : C.X.N.Nodup} (hz : Lm C.X i z) (hw : Lm C.X j w) (h : EX C τ n e fun x τ1 n1 => D.nx ((τ1.set i (.st x)).set j (.st x)) n1)
    (ha : (assignEach [.Name z p, .Name w p2] C.X.env).map (·.2) = [assign (.Name z p) C.X.env, assign (.Name w p2) C.X.env] := by rfl) (hs : swappedStores [.Name z p, .Name w p2] e C.X.env = pure none := by rfl) :
    SX C τ n (.Assign [.Name z p, .Name w p2] e pos) D := by
  intro σ G H Dc A k
  refine rs_of (ps_asg2 pe_re (pg_name ok hz.hN hz.hl hz.hf) (pg_name ok hw.hN hw.hl hw.hf) ha hs) ?_
  exact h [] σ G H _ A fun v x G' H' τ' n' A' e' r q => k.nx _ G' H' _ n' ((A'.put i r).put j r) e' q
theorem sx_par3 {i j l : Nat} {z y w : Str} {px py pz pt : Pos} {kt k2 : Nat} {pt2 : Pos} (hc : C.X.calm = true) {ok : C.X.N.Nodup} (hz : Lm C.X i z) (hy : Lm C.X j y) (hw : Lm C.X l w) (hij : i ≠ j) (hil : i ≠ l) (hjl : j ≠ l)
    (lz : C.X.env.scope.names.lookup z = some .local) (ly : C.X.env.scope.names.lookup y = some .local) (lw : C.X.env.scope.names.lookup w = some .local)
    (h : EA C τ n [a, b, c] fun xs τ1 n1 => ∃ x1 x2 x3, xs = [x1, x2, x3] ∧ D.nx (((τ1.set i (.st x1)).set j (.st x2)).set l (.st x3)) n1)
    (hsw : swappedStores [.Tuple [.Name z px, .Name y py, .Name w pz] kt pt] (.Tuple [a, b, c] k2 pt2) C.X.env = pure (some [z, y, w]))
    (hs : swapsWithSole [.Tuple [.Name z px, .Name y py, .Name w pz] kt pt] (.Tuple [a, b, c] k2 pt2) pos.line C.X.env = pure false := by rfl) :
    SX C τ n (.Assign [.Tuple [.Name z px, .Name y py, .Name w pz] kt pt] (.Tuple [a, b, c] k2 pt2) pos) D := by
  intro σ G H Dc A k
  refine rs_of (ps_par3 hc ok hz.hN hy.hN hw.hN hij hil hjl lz ly lw pa_ra hsw hs) ?_
  refine h [] σ G H _ A fun vs xs G' H' τ' n' A' e' r ⟨x1, x2, x3, ex, q⟩ => ?_
  subst ex
  cases r with
  | cons r1 r =>
    obtain ⟨v2, v3, rfl, r2, r3⟩ := rvAll2 r
    exact ⟨_, _, _, rfl, k.nx _ G' H' _ n' (((A'.put i r1).put j r2).put l r3) e' q⟩
theorem sx_par2 {i j : Nat} {z y : Str} {px py pt : Pos} {kt k2 : Nat} {pt2 : Pos} (hc : C.X.calm = true) {ok : C.X.N.Nodup} (hz : Lm C.X i z) (hy : Lm C.X j y) (hij : i ≠ j)
    (lz : C.X.env.scope.names.lookup z = some .local) (ly : C.X.env.scope.names.lookup y = some .local)
    (h : EA C τ n [a, b] fun xs τ1 n1 => ∃ x1 x2, xs = [x1, x2] ∧ D.nx ((τ1.set i (.st x1)).set j (.st x2)) n1)
    (hsw : swappedStores [.Tuple [.Name z px, .Name y py] kt pt] (.Tuple [a, b] k2 pt2) C.X.env = pure (some [z, y]))
    (hs : swapsWithSole [.Tuple [.Name z px, .Name y py] kt pt] (.Tuple [a, b] k2 pt2) pos.line C.X.env = pure false := by rfl) :
    SX C τ n (.Assign [.Tuple [.Name z px, .Name y py] kt pt] (.Tuple [a, b] k2 pt2) pos) D := by
  intro σ G H Dc A k
  refine rs_of (ps_par hc ok hz.hN hy.hN hij lz ly pa_ra hsw hs) ?_
  refine h [] σ G H _ A fun vs xs G' H' τ' n' A' e' r ⟨x1, x2, ex, q⟩ => ?_
  subst ex
  obtain ⟨v2, v3, rfl, r2, r3⟩ := rvAll2 r
  exact ⟨_, _, rfl, k.nx _ G' H' _ n' ((A'.put i r2).put j r3) e' q⟩
/-- raise X('..') -/
theorem sx_raise {z m : Str} {j : Nat} {p p2 cpos : Pos} {Cl : Addr} (hc : C.X.calm = true) (tk : Takes C.X C.CW) {bmB : List Value} {B newId initId : String} (F : ExcBaseFacts B newId initId bmB) (q : PySem.W.excIn C.X.K Cl bmB newId = true)
    (gC : C.X.mg z = some (.ref Cl)) (kC : PySem.W.keepIn C.X.K (.ref Cl) = true) (r : Raises C.X (.ref Cl)) (hg : Gl C.X z) (hd : (z == ("__debug__" : Str)) = false) (h : C.E Cl τ n) :
    SX C τ n (.Raise (some (.Call (.Name z p) [.Constant (.str m) j p2] [] cpos)) none pos) D := by
  intro σ G H Dc A k
  refine rs_of (ps_raise hc tk (pmk_own F q gC kC r hg hd)) ?_
  exact ⟨rfl, Cl, τ, n, G, rfl, A, h⟩

/-! ### loops -/
theorem sx_while {body : List Stmt} (hp : PassesOwn (model C.X.prog C.X.w) C.X.A C.X.env C.X.xe) (I : Nat → List Sl → Nat → Prop) (m0 : Nat) (h0 : I m0 τ n)
    (hs : ∀ m τ n, I m τ n → ET C τ n c fun v τ1 n1 => (v = true → SXs C τ1 n1 body { nx := fun τ' n' => ∃ m', m' < m ∧ I m' τ' n', rt := D.rt, bk := D.nx, ct := fun τ' n' => ∃ m', m' < m ∧ I m' τ' n', rf := D.rf }) ∧ (v = false → D.nx τ1 n1)) :
    SX C τ n (.While c body [] pos) D := by
  intro σ G H Dc A k
  refine rs_of (ps_while hp pt_rt pss_rs) ?_
  refine ⟨fun m σ' H' => ∃ G' τ' n', C.As [] σ' G' H' τ' n' ∧ Ex G G' ∧ I m τ' n', ⟨m0, G, τ, n, A, Ex.refl _, h0⟩, ?_⟩
  rintro m σ1 H1 ⟨G1, τ1, n1, A1, e1, i1⟩
  refine hs m τ1 n1 i1 [] σ1 G1 H1 _ A1 fun v G2 H2 τ2 n2 A2 e2 q => ?_
  cases v with
  | true =>
    refine iteT ⟨fun σ' H' => ∃ m', m' < m ∧ ∃ G' τ' n', C.As [] σ' G' H' τ' n' ∧ Ex G G' ∧ I m' τ' n', fun _ _ z => z, ?_⟩
    refine q.1 rfl σ1 G2 H2 _ A2 ⟨fun σ3 G3 H3 τ3 n3 A3 e3 ⟨m', hm, i3⟩ => ⟨m', hm, G3, τ3, n3, A3, (e1.trans e2).trans e3, i3⟩, k.rt, fun σ3 G3 H3 τ3 n3 A3 e3 q3 => k.nx σ3 G3 H3 τ3 n3 A3 ((e1.trans e2).trans e3) q3, fun σ3 G3 H3 τ3 n3 A3 e3 ⟨m', hm, i3⟩ => ⟨m', hm, G3, τ3, n3, A3, (e1.trans e2).trans e3, i3⟩, k.rf⟩
  | false => exact iteF (k.nx σ1 G2 H2 τ2 n2 A2 (e1.trans e2) (q.2 rfl))
theorem sx_for {tg iter : Expr} {body : List Stmt} {vs : List Nat} {Ok : PyData → Prop} {set : PyData → List Sl → List Sl} (hp : PassesOwn (model C.X.prog C.X.w) C.X.A C.X.env C.X.xe) (hc : C.X.calm = true) (ht : Tg C.X tg vs Ok set)
    (h : EI C τ n tg iter fun ds τ1 n1 => ∃ I : Nat → List Sl → Nat → Prop, I 0 τ1 n1 ∧
      (∀ i d τ2 n2, ds[i]? = some d → I i τ2 n2 → Ok d ∧ SXs C (set d τ2) n2 body { nx := I (i + 1), rt := D.rt, bk := D.nx, ct := I (i + 1), rf := D.rf }) ∧ (∀ τ2 n2, I ds.length τ2 n2 → D.nx τ2 n2))
    (hs : ∀ x, foldedSetIterable iter C.X.env x = pure x := by intro _; rfl) : SX C τ n (.For tg iter body [] pos) D := by
  intro σ G H Dc A k
  refine rs_of (ps_for hp hc pi_ri pg_rg pss_rs hs) ?_
  refine h [] σ G H _ A fun J ds G1 H1 τ1 n1 A1 e1 sq ⟨I, i0, turn, fin⟩ => ?_
  refine ⟨fun i m σ' H' => m = ds.length - i ∧ i ≤ ds.length ∧ ∃ G' τ' n', C.As [] σ' G' H' τ' n' ∧ Ex G1 G' ∧ I i τ' n', ⟨ds.length, by simp, Nat.zero_le _, G1, τ1, n1, A1, Ex.refl _, i0⟩, ?_⟩
  rintro i m σ2 H2 ⟨rfl, hi, G2, τ2, n2, A2, e2, i2⟩
  by_cases hlt : i < ds.length
  · have hd : ds[i]? = some ds[i] := List.getElem?_eq_getElem hlt
    obtain ⟨go, yld⟩ := sq.go [] σ2 G2 H2 τ2 n2 i _ A2 e2 hd
    refine .inr ⟨go, fun σ' H' => ∃ G' τ' n', C.As [] σ' G' H' τ' n' ∧ Ex G1 G' ∧ I (i + 1) τ' n', fun σ' H' z => ⟨ds.length - (i + 1), by omega, rfl, hlt, z⟩, fun v H3 y => ?_⟩
    obtain ⟨G3, A3, e3, r3⟩ := yld v H3 y
    obtain ⟨okd, body'⟩ := turn i _ τ2 n2 hd i2
    refine ht.run C.WK C.G0 C.H0 [] σ2 G3 H3 τ2 n2 v _ _ rfl A3 r3 okd fun σ4 A4 _ _ => ?_
    exact body' σ4 G3 H3 _ A4 ⟨fun σ5 G5 H5 τ5 n5 A5 e5 i5 => ⟨G5, τ5, n5, A5, (e2.trans e3).trans e5, i5⟩, k.rt, fun σ5 G5 H5 τ5 n5 A5 e5 q => k.nx σ5 G5 H5 τ5 n5 A5 (e1.trans ((e2.trans e3).trans e5)) q, fun σ5 G5 H5 τ5 n5 A5 e5 i5 => ⟨G5, τ5, n5, A5, (e2.trans e3).trans e5, i5⟩, k.rf⟩
  · have hi' : i = ds.length := by omega
    subst hi'
    exact .inl ⟨sq.stop [] σ2 G2 H2 τ2 n2 _ A2 e2 (Nat.le_refl _), k.nx σ2 G2 H2 τ2 n2 A2 (e1.trans e2) (fin τ2 n2 i2)⟩

/-! ### comprehensions -/
def Cn.blk (C : Cn) (s : Shared) (H : Hp) (scope : Scope) (cE : Addr) (cl : List (Str × Addr)) (fp : List Addr) : Cn := { C with X := C.X.blk s H scope (compEnvC scope cl cE C.X.env) fp, E := fun _ _ _ => False }
theorem takes_false {C : Cn} (h : ∀ c τ n, ¬ C.E c τ n) : Takes C.X C.CW := fun u s' x => by
  obtain ⟨_, _, _, _, _, _, _, _, _, _, _, _, _, _, _, _, z⟩ := x
  obtain ⟨_, c, τ, n, G, _, _, q⟩ := z
  exact (h c τ n q).elim
/-- a clause's tests -/
def ETs (C : Cn) (τ : List Sl) (n : Nat) (ifs : List Expr) (Q : Bool → List Sl → Nat → Prop) : Prop := match ifs with
  | [] => Q true τ n
  | [c] => ET C τ n c Q
  | _ => False
def RTs (X : Cx) (ifs : List Expr) : TT := match ifs with
  | [] => tYes
  | [c] => RT X c
  | _ => fun _ _ _ => False
theorem pts_rts {X : Cx} {ifs : List Expr} (h : ifs.length ≤ 1) : PTs X ifs (RTs X ifs) := by
  match ifs, h with
  | [], _ => exact pts_nil
  | [c], _ => exact pts_one pt_rt
theorem ets_run {ifs : List Expr} {Q : Bool → List Sl → Nat → Prop} (h : ETs C τ n ifs Q) {pv : Pv} {σ : L2.St} {G H : Hp} {R : Bool → Hp → Prop} (A : C.As pv σ G H τ n) (k : ∀ b G' H' τ' n', C.As pv σ G' H' τ' n' → Ex G G' → Q b τ' n' → R b H') : RTs C.X ifs σ H R := by
  match ifs, h with
  | [], h => exact k true G H τ n A (Ex.refl _) h
  | [c], h => exact h pv σ G H R A k
def LcP (C : Cn) (scope : Scope) (vs : List Nat) (ifs : List Expr) (elt : Expr) (Ok : PyData → Prop) (set : PyData → List Sl → List Sl) (Q : Av → List Sl → Nat → Prop) (ds : List PyData) (τ1 : List Sl) (n1 : Nat) : Prop :=
  ds.length < sizeLine ∧ (∀ j ∈ vs, ∀ es, τ1[j]? ≠ some (.ow es)) ∧ ∃ I : Nat → List PyData → Nat → Prop, I 0 [] n1 ∧
    (∀ s H cE cl fp i d acc n2, ds[i]? = some d → I i acc n2 → Ok d ∧ ETs (C.blk s H scope cE cl fp) (set d (wipeS τ1 vs)) n2 ifs fun v τ3 n3 =>
      (v = true → ∀ s H cE cl fp, EX (C.blk s H scope cE cl fp) τ3 n3 elt fun y τ4 n4 => τ4 = set d (wipeS τ1 vs) ∧ ∃ z, y = .d z ∧ I (i + 1) (acc ++ [z]) n4) ∧ (v = false → τ3 = set d (wipeS τ1 vs) ∧ I (i + 1) acc n3)) ∧
    (∀ acc n2, I ds.length acc n2 → Q (.d (.list acc)) τ1 n2)
/-- targets keep what isn't theirs -/
def SetOk (vs : List Nat) (set : PyData → List Sl → List Sl) : Prop := ∀ (d : PyData) (τ : List Sl) (i : Nat), i ∉ vs → (set d τ)[i]? = τ[i]?
theorem lc_run {tg iter elt : Expr} {ifs : List Expr} {scope : Scope} {vs : List Nat} {Ok : PyData → Prop} {set : PyData → List Sl → List Sl} (hset : SetOk vs set)
    (ht : ∀ (s : Shared) (H : Hp) (cE : Addr) (cl : List (Str × Addr)) (fp : List Addr), Tg (C.X.blk s H scope (compEnvC scope cl cE C.X.env) fp) tg vs Ok set)
    {pv : Pv} {σ : L2.St} {G H : Hp} {R : VK} (A : C.As pv σ G H τ n) (h : EI C τ n tg iter fun ds τ1 n1 => LcP C scope vs ifs elt Ok set Q ds τ1 n1) (k : KE C pv σ G Q R) :
    tLc (RI C.X tg iter) (fun v σ H Q => ∀ s Hb cE cl fp, RG (C.X.blk s Hb scope (compEnvC scope cl cE C.X.env) fp) tg v σ H Q) (fun σ H Q => ∀ s Hb cE cl fp, RTs (C.X.blk s Hb scope (compEnvC scope cl cE C.X.env) fp) ifs σ H Q)
      (fun σ H Q => ∀ s Hb cE cl fp, RE (C.X.blk s Hb scope (compEnvC scope cl cE C.X.env) fp) elt σ H Q) vs σ H R := by
  refine h pv σ G H _ A fun J ds G1 H1 τ1 n1 A1 e1 sq ⟨hz, hno, I, i0, turn, fin⟩ Dl hD => ?_
  have nd := A1.privNe hD
  have keepO : ∀ (j : Nat) es, τ1[j]? = some (.ow es) → j ∉ vs := fun j es q hj => hno j hj es q
  refine ⟨fun i m H' => m = ds.length - i ∧ i ≤ ds.length ∧ ∃ G' acc n2 av, C.As ((Dl, .lst av) :: pv) σ G' H' τ1 n2 ∧ DtAll C.X.K G' av acc ∧ Ex G1 G' ∧ I i acc n2 ∧ acc.length ≤ i, ⟨ds.length, by simp, Nat.zero_le _, G1, [], n1, [], A1.priv hD, .nil, Ex.refl _, i0, Nat.le_refl _⟩, ?_⟩
  rintro i m H2 ⟨rfl, hi, G2, acc, n2, av, A2, da, e2, i2, hacc⟩
  by_cases hlt : i < ds.length
  · have hd : ds[i]? = some ds[i] := List.getElem?_eq_getElem hlt
    obtain ⟨go, yld⟩ := sq.go _ σ G2 H2 τ1 n2 i _ A2 e2 hd
    refine .inr ⟨go, fun H' => ∃ G' acc n2 av, C.As ((Dl, .lst av) :: pv) σ G' H' τ1 n2 ∧ DtAll C.X.K G' av acc ∧ Ex G1 G' ∧ I (i + 1) acc n2 ∧ acc.length ≤ i + 1, fun H' z => ⟨ds.length - (i + 1), by omega, rfl, hlt, z⟩, fun v H3 y => ?_⟩
    obtain ⟨G3, A3, e3, r3⟩ := yld v H3 y
    have A3w := A3.wipe vs
    intro s Hb cE cl fp
    obtain ⟨okd, body⟩ := turn s Hb cE cl fp i _ acc n2 hd i2
    refine (ht s Hb cE cl fp).run C.WK C.G0 C.H0 _ (wipe σ vs) G3 H3 (wipeS τ1 vs) n2 v _ _ rfl A3w r3 okd fun σ4 A4 hw hk => ⟨?_, ?_⟩
    · rw [hw]
      show wipe (wipe σ vs) vs = wipe σ vs
      exact wipe_wipe σ vs
    intro s' Hb' cE' cl' fp'
    obtain ⟨_, body⟩ := turn s' Hb' cE' cl' fp' i _ acc n2 hd i2
    have A4' : (C.blk s' Hb' scope cE' cl' fp').As ((Dl, .lst av) :: pv) σ4 G3 H3 (set ds[i] (wipeS τ1 vs)) n2 := A4
    have back : ∀ {G5 H5 : Hp} {n5 : Nat}, C.As ((Dl, .lst av) :: pv) σ4 G5 H5 (set ds[i] (wipeS τ1 vs)) n5 → Ex G3 G5 → C.As ((Dl, .lst av) :: pv) σ G5 H5 τ1 n5 := fun {G5 H5 n5} A5 e5 =>
      A3.rewind A5 e5 fun j es q => by
        have hj := keepO j es q
        refine ⟨?_, ?_⟩
        · rw [hset _ _ _ hj, wipeS_ne hj]; exact q
        · rw [hk j hj, wipe_ne hj]
    refine ets_run body A4' fun bb G5 H5 τ5 n5 A5 e5 q5 => ?_
    cases bb with
    | true =>
      refine iteT ?_
      intro s6 Hb6 cE6 cl6 fp6
      have q6 := q5.1 rfl s6 Hb6 cE6 cl6 fp6
      refine q6 _ σ4 G5 H5 _ A5 fun u y G6 H6 τ6 n6 A6 e6 r6 ⟨et, z, ey, i6⟩ => ?_
      subst et ey
      have A7 := back A6 (e5.trans e6)
      obtain ⟨hDl, _⟩ := A7.pr (Dl, .lst av) List.mem_cons_self
      have ee : Ex G2 G6 := (e3.trans e5).trans e6
      refine ⟨av, hDl, ?_, G6, acc ++ [z], n6, av ++ [u], A7.privSet nd, dpa_app (dpAll_ex ee _ _ da) (.cons r6 .nil), e2.trans ee, i6, ?_⟩
      · rw [dpa_len da]; omega
      · rw [List.length_append]; simp; omega
    | false =>
      refine iteF ?_
      obtain ⟨et, i5⟩ := q5.2 rfl
      subst et
      exact ⟨G5, acc, n5, av, back A5 e5, dpAll_ex (e3.trans e5) _ _ da, (e2.trans e3).trans e5, i5, Nat.le_succ_of_le hacc⟩
  · have hi' : i = ds.length := by omega
    subst hi'
    refine .inl ⟨sq.stop _ σ G2 H2 τ1 n2 _ A2 e2 (Nat.le_refl _), ?_⟩
    have A3 := A2.privOut nd
    obtain ⟨_, hG, _⟩ := A2.pr (Dl, .lst av) List.mem_cons_self
    have ex : Ex G2 (upd G2 Dl (.lst av)) := Ex.new hG
    exact k _ _ _ _ τ1 n2 A3 ((e1.trans e2).trans ex) (rv_lst upd_same (dpAll_ex ex _ _ da)) (fin acc n2 i2)
end
end M

set_option Elab.async false
set_option linter.all false
set_option maxRecDepth 100000
set_option maxHeartbeats 4000000
namespace M
open PySem PySem.Spec PyProof.Rows L2
section
variable {C : Cn} {τ : List Sl} {n : Nat} {e a b c : Expr} {es : List Expr} {pos : Pos} {Q : Av → List Sl → Nat → Prop} {QT : Bool → List Sl → Nat → Prop} {x y : Av} {xs : List Av} {D : AE}
theorem ex_lc {tg iter elt : Expr} {ifs : List Expr} {scope : Scope} {own : List (Str × Nat)} {Ok : PyData → Prop} {set : PyData → List Sl → List Sl} (hc : C.X.calm = true) (hN : C.X.N.Nodup) (hl : ifs.length ≤ 1)
    (ok : BlkOk C.X.N C.X.env.scope scope own) (hset : SetOk (own.map (·.2)) set)
    (ht : ∀ (s : Shared) (H : Hp) (cE : Addr) (cl : List (Str × Addr)) (fp : List Addr), Tg (C.X.blk s H scope (compEnvC scope cl cE C.X.env) fp) tg (own.map (·.2)) Ok set)
    (h : EI C τ n tg iter fun ds τ1 n1 => LcP C scope (own.map (·.2)) ifs elt Ok set Q ds τ1 n1)
    (hs : ∀ x, foldedSetIterable iter C.X.env x = pure x := by intro _; rfl) : EX C τ n (.ListComp elt [⟨tg, iter, ifs, 0⟩] scope pos) Q := by
  intro pv σ G H R A k
  refine re_of (pe_lc (own := own) (g := fun v σ H Q => ∀ s Hb cE cl fp, RG (C.X.blk s Hb scope (compEnvC scope cl cE C.X.env) fp) tg v σ H Q) (tt := fun σ H Q => ∀ s Hb cE cl fp, RTs (C.X.blk s Hb scope (compEnvC scope cl cE C.X.env) fp) ifs σ H Q) (te := fun σ H Q => ∀ s Hb cE cl fp, RE (C.X.blk s Hb scope (compEnvC scope cl cE C.X.env) fp) elt σ H Q) hc hN pi_ri ok (fun s Hb cE cl fp => ⟨fun pins s' σ H v u Q I r h => h s Hb cE cl fp pins s' u I r⟩)
    (fun s Hb cE cl fp => ⟨fun pins s' σ H Q I h => (pts_rts hl).run pins s' σ H Q I (h s Hb cE cl fp)⟩) (fun s Hb cE cl fp => ⟨fun pins s' σ H Q I h => h s Hb cE cl fp pins s' I⟩) hs) ?_
  exact lc_run hset ht A h k
theorem sx_asgLc {i : Nat} {z : Str} {py spos : Pos} {tg iter elt : Expr} {ifs : List Expr} {scope : Scope} {own : List (Str × Nat)} {Ok : PyData → Prop} {set : PyData → List Sl → List Sl} (hc : C.X.calm = true) (hN : C.X.N.Nodup) (hl : ifs.length ≤ 1)
    (hz : C.X.N[i]? = some z) (hzl : C.X.env.scope.names.lookup z = some .local) (hsw : swapsWith (.ListComp elt [⟨tg, iter, ifs, 0⟩] scope pos) (some (.Name z py)) spos.line C.X.env = pure true)
    (ok : BlkOk C.X.N C.X.env.scope scope own) (hset : SetOk (own.map (·.2)) set)
    (ht : ∀ (s : Shared) (H : Hp) (cE : Addr) (cl : List (Str × Addr)) (fp : List Addr), Tg (C.X.blk s H scope (compEnvC scope cl cE C.X.env) fp) tg (own.map (·.2)) Ok set)
    (h : EI C τ n tg iter fun ds τ1 n1 => LcP C scope (own.map (·.2)) ifs elt Ok set (fun x τ2 n2 => D.nx (τ2.set i (.st x)) n2) ds τ1 n1)
    (hs : ∀ x, foldedSetIterable iter C.X.env x = pure x := by intro _; rfl) : SX C τ n (.Assign [.Name z py] (.ListComp elt [⟨tg, iter, ifs, 0⟩] scope pos) spos) D := by
  intro σ G H Dc A k
  refine rs_of (ps_setLc (own := own) (g := fun v σ H Q => ∀ s Hb cE cl fp, RG (C.X.blk s Hb scope (compEnvC scope cl cE C.X.env) fp) tg v σ H Q) (tt := fun σ H Q => ∀ s Hb cE cl fp, RTs (C.X.blk s Hb scope (compEnvC scope cl cE C.X.env) fp) ifs σ H Q) (te := fun σ H Q => ∀ s Hb cE cl fp, RE (C.X.blk s Hb scope (compEnvC scope cl cE C.X.env) fp) elt σ H Q) hc hN hz hzl hsw pi_ri ok (fun s Hb cE cl fp => ⟨fun pins s' σ H v u Q I r h => h s Hb cE cl fp pins s' u I r⟩)
    (fun s Hb cE cl fp => ⟨fun pins s' σ H Q I h => (pts_rts hl).run pins s' σ H Q I (h s Hb cE cl fp)⟩) (fun s Hb cE cl fp => ⟨fun pins s' σ H Q I h => h s Hb cE cl fp pins s' I⟩) hs) ?_
  refine lc_run hset ht A h fun v x G' H' τ' n' A' e' r q => ?_
  exact k.nx _ G' H' _ n' (A'.put i r) e' q
theorem putK_new {κ : Type} [DecidableEq κ] {kvs : List (κ × V)} {k : κ} {v : V} (h : ∀ p ∈ kvs, p.1 ≠ k) : putK kvs k v = kvs ++ [(k, v)] := by
  unfold putK
  have e : (kvs.any fun p => decide (p.1 = k)) = false := by
    rw [List.any_eq_false]
    intro p hp
    simpa using h p hp
  first
    | rw [if_neg (by rw [e]; exact Bool.false_ne_true)]
    | simp [e]
/-- {k: v for target in iter}, ints: keys all unlike -/
theorem ex_dc {tg iter kx vx : Expr} {scope : Scope} {own : List (Str × Nat)} {Ok : PyData → Prop} {set : PyData → List Sl → List Sl} (hc : C.X.calm = true) (hN : C.X.N.Nodup)
    (ok : BlkOk C.X.N C.X.env.scope scope own) (hset : SetOk (own.map (·.2)) set)
    (ht : ∀ (s : Shared) (H : Hp) (cE : Addr) (cl : List (Str × Addr)) (fp : List Addr), Tg (C.X.blk s H scope (compEnvC scope cl cE C.X.env) fp) tg (own.map (·.2)) Ok set)
    (h : EI C τ n tg iter fun ds τ1 n1 => ds.length < sizeLine ∧ (∀ j ∈ own.map (·.2), ∀ es, τ1[j]? ≠ some (.ow es)) ∧ ∃ kvs : List (Int × Int), kvs.length = ds.length ∧ (kvs.map (·.1)).Nodup ∧
      (∀ (i : Nat) d (p : Int × Int), ds[i]? = some d → kvs[i]? = some p → Ok d ∧ ∀ s H cE cl fp, EX (C.blk s H scope cE cl fp) (set d (wipeS τ1 (own.map (·.2)))) n1 kx fun x τ2 n2 => x = aI p.1 ∧ τ2 = set d (wipeS τ1 (own.map (·.2))) ∧ n2 = n1 ∧
        ∀ s H cE cl fp, EX (C.blk s H scope cE cl fp) τ2 n2 vx fun y τ3 n3 => y = aI p.2 ∧ τ3 = set d (wipeS τ1 (own.map (·.2))) ∧ n3 = n1) ∧ Q (.dc kvs) τ1 n1)
    (hs : ∀ x, foldedSetIterable iter C.X.env x = pure x := by intro _; rfl) : EX C τ n (.DictComp kx vx [⟨tg, iter, [], 0⟩] scope pos) Q := by
  intro pv σ G H R A k
  refine re_of (pe_dc (own := own) (tt := tYes) (g := fun v σ H Q => ∀ s Hb cE cl fp, RG (C.X.blk s Hb scope (compEnvC scope cl cE C.X.env) fp) tg v σ H Q) (tk := fun σ H Q => ∀ s Hb cE cl fp, RE (C.X.blk s Hb scope (compEnvC scope cl cE C.X.env) fp) kx σ H Q)
    (tv := fun σ H Q => ∀ s Hb cE cl fp, RE (C.X.blk s Hb scope (compEnvC scope cl cE C.X.env) fp) vx σ H Q) hc hN pi_ri ok (fun s Hb cE cl fp => ⟨fun pins s' σ H v u Q I r h => h s Hb cE cl fp pins s' u I r⟩)
    (fun s Hb cE cl fp => pts_nil) (fun s Hb cE cl fp => ⟨fun pins s' σ H Q I h => h s Hb cE cl fp pins s' I⟩) (fun s Hb cE cl fp => ⟨fun pins s' σ H Q I h => h s Hb cE cl fp pins s' I⟩) hs) ?_
  refine h pv σ G H _ A fun J ds G1 H1 τ1 n1 A1 e1 sq ⟨hz, hno, kvs, hlen, hnd, turn, fin⟩ Dl hD => ?_
  have nd := A1.privNe hD
  have keepO : ∀ (j : Nat) es, τ1[j]? = some (.ow es) → j ∉ own.map (·.2) := fun j es q hj => hno j hj es q
  refine ⟨fun i m H' => m = ds.length - i ∧ i ≤ ds.length ∧ ∃ G', C.As ((Dl, .dK (dcV (kvs.take i))) :: pv) σ G' H' τ1 n1 ∧ Ex G1 G', ⟨ds.length, by simp, Nat.zero_le _, G1, A1.priv hD, Ex.refl _⟩, ?_⟩
  rintro i m H2 ⟨rfl, hi, G2, A2, e2⟩
  by_cases hlt : i < ds.length
  · have hd : ds[i]? = some ds[i] := List.getElem?_eq_getElem hlt
    have hlt' : i < kvs.length := by omega
    have hp : kvs[i]? = some kvs[i] := List.getElem?_eq_getElem hlt'
    obtain ⟨go, yld⟩ := sq.go _ σ G2 H2 τ1 n1 i _ A2 e2 hd
    refine .inr ⟨go, fun H' => ∃ G', C.As ((Dl, .dK (dcV (kvs.take (i + 1)))) :: pv) σ G' H' τ1 n1 ∧ Ex G1 G', fun H' z => ⟨ds.length - (i + 1), by omega, rfl, hlt, z⟩, fun v H3 y => ?_⟩
    obtain ⟨G3, A3, e3, r3⟩ := yld v H3 y
    have A3w := A3.wipe (own.map (·.2))
    obtain ⟨okd, body⟩ := turn i _ _ hd hp
    intro s Hb cE cl fp
    show RG (C.X.blk s Hb scope (compEnvC scope cl cE C.X.env) fp) tg v _ H3 _
    refine (ht s Hb cE cl fp).run C.WK C.G0 C.H0 _ (wipe σ (own.map (·.2))) G3 H3 _ n1 v _ _ rfl A3w r3 okd fun σ4 A4 hw hk => ?_
    refine ⟨?_, ?_⟩
    · show wipe σ4 (own.map (·.2)) = wipe σ (own.map (·.2))
      rw [hw]
      exact wipe_wipe σ (own.map (·.2))
    refine iteT (B := ∃ G', C.As ((Dl, HO.dK (dcV (List.take (i + 1) kvs))) :: pv) σ G' H3 τ1 n1 ∧ Ex G1 G') ?_
    intro s' Hb' cE' cl' fp'
    have back : ∀ {G5 H5 : Hp}, C.As ((Dl, .dK (dcV (kvs.take i))) :: pv) σ4 G5 H5 (set ds[i] (wipeS τ1 (own.map (·.2)))) n1 → Ex G3 G5 → C.As ((Dl, .dK (dcV (kvs.take i))) :: pv) σ G5 H5 τ1 n1 := fun {G5 H5} A5 e5 =>
      A3.rewind A5 e5 fun j es q => by
        have hj := keepO j es q
        refine ⟨?_, ?_⟩
        · rw [hset _ _ _ hj, wipeS_ne hj]; exact q
        · rw [hk j hj, wipe_ne hj]
    refine body s' Hb' cE' cl' fp' _ σ4 G3 H3 _ A4 fun w x G5 H5 τ5 n5 A5 e5 r5 ⟨ex, et, en, q5⟩ => ?_
    subst ex et en
    intro s6 Hb6 cE6 cl6 fp6
    refine q5 s6 Hb6 cE6 cl6 fp6 _ σ4 G5 H5 _ A5 fun u y G6 H6 τ6 n6 A6 e6 r6 ⟨ey, et, en⟩ => ?_
    subst ey et en
    have A7 := back A6 (e5.trans e6)
    obtain ⟨hDl, _⟩ := A7.pr (Dl, .dK (dcV (kvs.take i))) List.mem_cons_self
    refine ⟨dcV (kvs.take i), Sum.inl kvs[i].1, r5.int, hDl, ?_, G6, ?_, e2.trans ((e3.trans e5).trans e6)⟩
    · unfold dcV
      rw [List.length_map, List.length_take]; omega
    · have e8 : putK (dcV (kvs.take i)) (Sum.inl kvs[i].1 : Key) u = dcV (kvs.take (i + 1)) := by
        rw [putK_new, r6.int]
        · unfold dcV
          rw [List.take_succ_eq_append_getElem hlt', List.map_append]; rfl
        · intro p hp
          unfold dcV at hp
          obtain ⟨q, hq, rfl⟩ := List.mem_map.mp hp
          intro z
          have z' : q.1 = kvs[i].1 := Sum.inl.inj z
          obtain ⟨j, hj, e⟩ := List.getElem_of_mem hq
          rw [List.length_take] at hj
          rw [List.getElem_take] at e
          have e9 := (List.getElem_inj (i := j) (j := i) (h₀ := by rw [List.length_map]; omega) (h₁ := by rw [List.length_map]; omega) hnd).mp (by rw [List.getElem_map, List.getElem_map, e]; exact z')
          omega
      rw [e8]
      exact A7.privSet nd
  · have hi' : i = ds.length := by omega
    subst hi'
    refine .inl ⟨sq.stop _ σ G2 H2 τ1 n1 _ A2 e2 (Nat.le_refl _), ?_⟩
    have A3 := A2.privOut nd
    obtain ⟨_, hG, _⟩ := A2.pr _ List.mem_cons_self
    rw [List.take_of_length_le (by omega)] at A3 hG
    have ex : Ex G2 (upd G2 Dl (.dK (dcV kvs))) := Ex.new hG
    exact k _ (.dc kvs) _ _ τ1 n1 A3 ((e1.trans e2).trans ex) (show Rv C.WK _ _ (.dc kvs) from ⟨Dl, rfl, upd_same⟩) fin
theorem setOk_name {i : Nat} : SetOk [i] (fun d τ => τ.set i (.st (.d d))) := fun d τ j hj => List.getElem?_set_ne (fun z => hj (by simp [z]))
theorem setOk_tup2 {i j : Nat} : SetOk [i, j] (fun d τ => (τ.set i (.st (.d (prj d 0)))).set j (.st (.d (prj d 1)))) := fun d τ m hm => by
  simp only [List.mem_cons, List.mem_nil_iff, or_false, not_or] at hm
  rw [List.getElem?_set_ne (fun z => hm.2 z.symm), List.getElem?_set_ne (fun z => hm.1 z.symm)]
theorem setOk_tup3 {i j l : Nat} : SetOk [i, j, l] (fun d τ => ((τ.set i (.st (.d (prj d 0)))).set j (.st (.d (prj d 1)))).set l (.st (.d (prj d 2)))) := fun d τ m hm => by
  simp only [List.mem_cons, List.mem_nil_iff, or_false, not_or] at hm
  rw [List.getElem?_set_ne (fun z => hm.2.2 z.symm), List.getElem?_set_ne (fun z => hm.2.1 z.symm), List.getElem?_set_ne (fun z => hm.1 z.symm)]
end

/-! ### defs -/
abbrev ASp := List Av → Nat → (Av → Nat → Prop) → (Addr → Nat → Prop) → Prop
def spOf (W : Wo) (asp : ASp) : Sp := fun vs H Q E => ∃ G xs n R RE, Sta W G H ∧ WI W n H ∧ RvAll W G vs xs ∧ asp xs n R RE ∧
  (∀ v x n' G' H', Gr W G H G' H' → WI W n' H' → Rv W G' v x → R x n' → Q v H') ∧ (∀ c n' G' H', Gr W G H G' H' → WI W n' H' → RE c n' → E (.ref c) none H')
theorem RvAll.len {W : Wo} {G : Hp} : ∀ {vs : List V} {xs : List Av}, RvAll W G vs xs → vs.length = xs.length
  | _, _, .nil => rfl
  | _, _, .cons _ t => by simp [t.len]
theorem RvAll.get {W : Wo} {G : Hp} : ∀ {vs : List V} {xs : List Av} {i : Nat} {x : Av}, RvAll W G vs xs → xs[i]? = some x → ∃ v, vs[i]? = some v ∧ Rv W G v x
  | _, _, i, x, .nil, h => by simp at h
  | _, _, 0, x, .cons r t, h => by simp at h; subst h; exact ⟨_, by simp, r⟩
  | _, _, i + 1, x, .cons r t, h => by
    obtain ⟨v, h1, r1⟩ := t.get (i := i) (by simpa using h)
    exact ⟨v, by simpa using h1, r1⟩
def startS (N : List Str) (xs : List Av) : List Sl := xs.map Sl.st ++ List.replicate (N.length - xs.length) .no
/-- the context of a def's body -/
def cnOf (P : Program) (w : World) (K : PySem.W.Frag) (mg : Str → Option Value) (base : Heap) (N : List Str) (qual : Str) (sc : Scope) (f : Addr) (cd : Value) (A : Around) (outer : List Env) (s : Shared) (H : Hp) (E : XK) (W : Wo) (G : Hp) (RE : Addr → Nat → Prop) : Cn where
  X := cxOf (CX P w) P w K mg base N qual sc f cd A outer s H E
  W := W
  G0 := G
  H0 := H
  E := fun c _ n => RE c n
/-- what a body is given -/
structure Bd (C : Cn) (k : Nat) : Prop where
  tk : Takes C.X C.CW
  room : Room k C.X.A
  nd : C.X.N.Nodup
  calm : C.X.calm = true
  own : PassesOwn (model C.X.prog C.X.w) C.X.A C.X.env C.X.xe
section
variable {P : Program} {w : World} {K : PySem.W.Frag} {mg : Str → Option Value} {base : Heap} {W : Wo}
theorem fn_asp {x qual : Str} {st : Stmt} {f : Addr} {fd : FuncData} {N ps : List Str} {k : Nat} {asp : ASp} (F : Fun K x qual st f fd) (S : FnScope N ps (defScope st)) (len : ∀ xs n R RE, asp xs n R RE → xs.length = ps.length)
    (body : ∀ cd A outer s H E G xs n R RE, asp xs n R RE → Bd (cnOf P w K mg base N qual (defScope st) f cd A outer s H E W G RE) k →
      SXs (cnOf P w K mg base N qual (defScope st) f cd A outer s H E W G RE) (startS N xs) n (defBody st) { nx := fun _ n' => R aN n', rt := R }) :
    FnOk P w K mg base (CX P w) (k + 1) f fd ps (spOf { W with K := K } asp) := by
  refine F.okX S (fun vs H Q E ⟨G, xs, n, R, RE, _, _, r, h, _⟩ => by rw [r.len]; exact len xs n R RE h) (fun cdv A outer s H vs Q E hr ⟨G, xs, n, R, RE, sta, wi, r, h, kR, kE⟩ => ?_)
  have hl := len xs n R RE h
  have hpl : ps.length ≤ N.length := by have := congrArg List.length S.pre; rw [List.length_take] at this; omega
  refine ⟨RSs (cxOf (CX P w) P w K mg base N qual (defScope st) f cdv A outer s H E) (defBody st), pss_rs, ?_⟩
  have B : Bd (cnOf P w K mg base N qual (defScope st) f cdv A outer s H E W G RE) k := by
    refine ⟨?_, hr, S.nd, rfl, passes_of (X := cxOf (CX P w) P w K mg base N qual (defScope st) f cdv A outer s H E) rfl⟩
    refine Takes.imp (W := fun cls d _ H => E cls d H) (takes_of (X := cxOf (CX P w) P w K mg base N qual (defScope st) f cdv A outer s H E) rfl rfl rfl rfl) fun cls d σ H' ⟨e1, c, τ, n', G', e2, A', q⟩ => ?_
    subst e1 e2
    exact kE c n' G' H' A'.gr A'.wi q
  refine body cdv A outer s H E G xs n R RE h B (L2.start N vs) G H _ ?_ ⟨fun σ G' H' τ n' A' _ q => kR _ _ n' G' H' A'.gr A'.wi rv_none q, fun v x n' G' H' g w' r' q => kR v x n' G' H' g w' r' q, fun _ _ _ _ _ _ _ q => q.elim, fun _ _ _ _ _ _ _ q => q.elim, fun _ _ _ _ _ _ _ _ _ _ q => q.elim⟩
  have hv := r.len
  refine ⟨Gr.refl sta, wi, ?_, fun i x e => ?_, fun i ds e => ?_, fun i j a ds es _ e1 e2 _ _ => ?_, fun p hp => absurd hp (by simp)⟩
  · unfold L2.start startS
    simp only [List.length_append, List.length_map, List.length_replicate, hv]
  · unfold startS at e
    have hi : i < xs.length := by
      by_cases hi : i < xs.length
      · exact hi
      · rw [List.getElem?_append_right (by simpa using hi), List.getElem?_replicate] at e
        split at e <;> cases e
    rw [List.getElem?_append_left (by simpa using hi), List.getElem?_map] at e
    cases q : xs[i]? with
    | none => rw [q] at e; cases e
    | some z =>
      rw [q] at e
      cases e
      obtain ⟨v, h1, r1⟩ := r.get q
      refine ⟨v, ?_, r1⟩
      unfold L2.start
      rw [List.getElem?_append_left (by rw [List.length_map, hv]; exact hi), List.getElem?_map, h1]; rfl
  · unfold startS at e
    exfalso
    by_cases hi : i < xs.length
    · rw [List.getElem?_append_left (by simpa using hi), List.getElem?_map] at e
      cases q : xs[i]? with
      | none => rw [q] at e; cases e
      | some z => rw [q] at e; cases e
    · rw [List.getElem?_append_right (by simpa using hi), List.getElem?_replicate] at e
      split at e <;> cases e
  · unfold startS at e1
    exfalso
    by_cases hi : i < xs.length
    · rw [List.getElem?_append_left (by simpa using hi), List.getElem?_map] at e1
      cases q : xs[i]? with
      | none => rw [q] at e1; cases e1
      | some z => rw [q] at e1; cases e1
    · rw [List.getElem?_append_right (by simpa using hi), List.getElem?_replicate] at e1
      split at e1 <;> cases e1
/-- a def that may be called by its name -/
def FnG (P : Program) (w : World) (K : PySem.W.Frag) (mg : Str → Option Value) (base : Heap) (W : Wo) (z : Str) (k : Nat) (asp : ASp) : Prop :=
  ∃ f fd ps, FnOk P w K mg base (CX P w) k f fd ps (spOf { W with K := K } asp) ∧ mg z = some (.ref f) ∧ PySem.W.keepIn K (.ref f) = true ∧ Binds K fd ps []
end
section
variable {C : Cn} {τ : List Sl} {n : Nat} {e a b c : Expr} {es : List Expr} {pos : Pos} {Q : Av → List Sl → Nat → Prop}
theorem ex_call {z : Str} {j k : Nat} {asp : ASp} {p : Pos} (F : FnG C.X.prog C.X.w C.X.K C.X.mg C.X.base C.W z k asp) (hr : Room j C.X.A) (hj : k ≤ j) (tk : Takes C.X C.CW) (hg : Gl C.X z)
    (h : EA C τ n (e :: es) fun xs τ1 n1 => asp xs n1 (fun x n2 => Q x τ1 n2) (fun c n2 => C.E c τ1 n2)) (hdb : (z == ("__debug__" : Str)) = false := by decide)
    (he : starEach (e :: es) C.X.env = (false, eval e C.X.env) :: starEach es C.X.env := by rfl) (hpl : (backTo pos (starEach es C.X.env)).any (·.1) = false := by rfl) :
    EX C τ n (.Call (.Name z p) (e :: es) [] pos) Q := by
  obtain ⟨f, fd, ps, F, hm, hk, hb⟩ := F
  intro pv σ G H R A kk
  refine re_of (pe_callS (E := WE C.CW) F (hr.mono hj) hg hm hk hb (fun σ => passAt tk σ) pa_ra hdb he hpl) ?_
  refine h pv σ G H _ A fun vs xs G1 H1 τ1 n1 A1 e1 r1 q => ?_
  refine ⟨G1, xs, n1, fun x n2 => Q x τ1 n2, fun c n2 => C.E c τ1 n2, A1.sta, A1.wi, r1, q, fun v x n' G' H' g w' r' q' => ?_, fun c n' G' H' g w' q' => ?_⟩
  · exact kk v x G' H' τ1 n' (A1.grow g w') (e1.trans g.ex) r' q'
  · exact ⟨rfl, c, τ1, n', G', rfl, (A1.grow g w').nopv, q'⟩
end
end M

set_option Elab.async false
set_option linter.all false
set_option maxRecDepth 100000
set_option maxHeartbeats 4000000
namespace M
open PySem PySem.Spec PyProof.Rows L2
/-! ### a generator expression's own context -/
abbrev gX (X : Cx) (s : Shared) (H : Hp) (cenv : Env) (fp : List Addr) (pn : List (Addr × Obj)) (Aw : Around) : Cx :=
  { X with A := Aw, s_0 := s, H_0 := H, env := cenv, outer := X.stack, stack := cenv :: X.stack, ex := fp, fn := fun _ => false, pn := pn, xe := fun _ _ => False }
structure GSc (scope : Scope) (x : Str) : Prop where
  kind : scope.kind = .function
  co : scope.isCoroutine = false
  cell : ∀ y ∈ scope.names, y.2 ≠ .cell
  dot : scope.names.lookup (".0" : Str) = some NameKind.local
  loc : scope.names.lookup x = some .local
theorem over_cl {A : Around} {e : Expr} {gs : List Comprehension} {sc : Scope} {p : Pos} {it acc : Value} {env : Env} : A.over (.compLoop (.GeneratorExp e gs sc p) 0 it acc env) [] = A.deeper env := rfl
theorem over_cs {A : Around} {e : Expr} {gs : List Comprehension} {sc : Scope} {p : Pos} {it acc : Value} {env : Env} : A.over (.compStart (.GeneratorExp e gs sc p) 0 it acc env) [] = A.deeper env := rfl
theorem gen_start {X : Cx} {pins : List (Addr × Obj)} {σ : L2.St} {H : Hp} {s : Shared} {scope : Scope} {own : List (Str × Nat)} {fp : List Addr} {x : Str} {code : Value} {h' : Heap} {go : Obj} {g' : Array GenState} {t' : Nat} {Aw : Around} {m : Str → Option Value}
    (I : Inv X pins σ H s) (ok : BlkOk X.N X.env.scope scope own) (hN : X.N.Nodup) (S : GSc scope x) (hfp : ∀ b ∈ fp, FpOk X pins H b ∧ b < s.heap.objs.size) (hh : Aw.handled = none)
    (hf : Aw.frames = some (genEnv scope (cloFrom X.env.cells scope.names []) s.heap.objs.size code builtinsNs X.env :: X.stack))
    (hn : h'.Ns s.heap.objs.size m) (kp0 : ∀ b o, s.heap.get? b = some o → h'.get? b = some o) (hsz : h'.objs.size = s.heap.objs.size + 1) (hg : AllBare g') (hd : ∀ v, go.data ≠ .cell v) (hgo : (h'.push go).get? h'.objs.size = some go) :
    Inv (gX X s H (genEnv scope (cloFrom X.env.cells scope.names []) s.heap.objs.size code builtinsNs X.env) fp [(h'.objs.size, go)] Aw) [] (wipe σ (own.map (·.2))) H { s with heap := h'.push go, gens := g', toks := t' } := by
  have hfree : ∀ y ∈ scope.names, y.2 = .free → ∃ c, X.env.cells.lookup y.1 = some c := fun y hy e => by
    rcases ok.free y hy e with k | k
    · exact I.ok.has _ (.inl k)
    · exact I.ok.has _ (.inr k)
  have kp : ∀ b o, s.heap.get? b = some o → (h'.push go).get? b = some o := fun b o e => Heap.get?_push_of_some _ (kp0 b o e)
  generalize hcl : cloFrom X.env.cells scope.names [] = cl
  have cm : ∀ {y c}, (y, c) ∈ cl → (y, NameKind.free) ∈ scope.names ∧ X.env.cells.lookup y = some c ∧ c < s.heap.objs.size := fun {y c} hm => by
    rw [← hcl] at hm
    rcases cloFrom_mem hm with hm | ⟨h1, rfl⟩
    · cases hm
    · obtain ⟨c, hc⟩ := hfree _ h1 rfl
      rw [hc]
      obtain ⟨w, z⟩ := I.cell _ _ hc
      exact ⟨h1, rfl, z.lt⟩
  have mem : ∀ {y c}, cl.lookup y = some c → X.env.cells.lookup y = some c ∧ c < s.heap.objs.size := fun {y c} e => (cm (PySem.mem_of_lookup e)).2
  have look : ∀ {y}, (y, NameKind.free) ∈ scope.names → ∃ c, cl.lookup y = some c ∧ X.env.cells.lookup y = some c := fun {y} hy => by
    have hm : (y, (X.env.cells.lookup y).getD 0) ∈ cl := by rw [← hcl]; exact cloFrom_has hy
    obtain ⟨c', e'⟩ := mem_lookup hm
    exact ⟨c', e', (mem e').1⟩
  have hLt : X.env.locals < s.heap.objs.size := I.lt
  have nstk : ∀ b, s.heap.objs.size ≤ b → b ∉ frs X.stack := fun b hb z => by
    rcases List.mem_cons.mp (I.stkSub b z) with z | z
    · rw [z] at hb; exact absurd (Nat.lt_of_lt_of_le hLt hb) (Nat.lt_irrefl _)
    · exact I.nofs hb z
  have okB : (gX X s H (genEnv scope cl s.heap.objs.size code builtinsNs X.env) fp [(h'.objs.size, go)] Aw).Ok := by
    refine ⟨I.ok.mod, S.kind, I.ok.glob, rfl, Nat.le_refl _, fun y z c e1 e2 => ?_, fun y hy => ?_, fun y c z _ => absurd z (by show ¬ (false = true); decide), fun _ => hh, by rw [← hcl]; exact hf, .inr ⟨rfl, rfl⟩, fun b hb => ⟨?_, fun y c e z => ?_⟩, I.bs, Nat.le_trans I.ok.bsz I.sz, fun b o e hb => ?_, fun b hb z => ?_, I.stack, I.stkFree⟩
    · exact I.ok.inj y z c (mem e1).1 (mem e2).1
    · have hy : scope.names.lookup y = some .cell ∨ scope.names.lookup y = some .free := hy
      rcases hy with hy | hy
      · exact absurd rfl (S.cell _ (PySem.mem_of_lookup hy))
      · obtain ⟨c, h1, _⟩ := look (PySem.mem_of_lookup hy)
        exact ⟨c, h1⟩
    · show b ≠ s.heap.objs.size
      exact Nat.ne_of_lt (hfp b hb).2
    · exact (hfp b hb).1.2.2.2.2.1 y c (mem e).1 z
    · rcases (hfp b hb).1.2.2.2.1 with z | z
      · exact I.ok.noex b o e z
      · exact absurd (Nat.lt_of_lt_of_le (Heap.lt_size e) (Nat.le_trans I.ok.bsz z)) (Nat.lt_irrefl _)
    · rcases List.mem_cons.mp (I.stkSub b z) with z | z
      · exact (hfp b hb).1.2.1 z
      · exact (hfp b hb).1.2.2.1 z
  refine ⟨okB, rfl, hg, Un.kept kp, ⟨m, hn.push go, fun i y av e1 e2 e3 => ?_⟩, fun y c e => ?_, I.hok.fresh (Nat.le_refl _), fun y c e => I.freeC y c (mem e).1, fun p hp => ?_, I.hok.kept kp, by rw [wipe_length]; exact I.len⟩
  · obtain ⟨e2, hne⟩ := wipe_some e2
    have e3 : scope.names.lookup y = some .local ∨ scope.names.lookup y = some .cell ∨ scope.names.lookup y = some .free := e3
    have hfr : scope.names.lookup y = some .free := by
      have no : ∀ kd, (y, kd) ∈ scope.names → ¬ (kd = .local ∨ kd = .cell) := fun kd hy hk => by
        rcases ok.own _ hy hk with e' | e'
        · obtain ⟨p, hp, hpy⟩ := List.mem_map.mp e'
          have e4 := ok.ix p hp
          have hpy : p.1 = y := hpy
          rw [hpy] at e4
          exact hne (List.mem_map.mpr ⟨p, hp, nodup_ix hN e4 e1⟩)
        · exact e' (List.mem_of_getElem? e1)
      rcases e3 with e3 | e3 | e3
      · exact absurd (.inl rfl) (no _ (PySem.mem_of_lookup e3))
      · exact absurd (.inr rfl) (no _ (PySem.mem_of_lookup e3))
      · exact e3
    obtain ⟨m, hn, hl⟩ := I.loc
    have hvis : Vis X.env.scope y := (ok.free _ (PySem.mem_of_lookup hfr) rfl).elim (fun k => .inr (.inl k)) (fun k => .inr (.inr k))
    obtain ⟨w, r, q⟩ := hl i y av e1 e2 hvis
    obtain ⟨c, h1, h2⟩ := look (PySem.mem_of_lookup hfr)
    refine ⟨w, r, .inr ⟨.inr hfr, ?_⟩⟩
    rcases q with ⟨k, _⟩ | ⟨_, c', e', z⟩
    · have k : X.env.scope.names.lookup y = some .local := k
      rcases ok.free _ (PySem.mem_of_lookup hfr) rfl with k' | k' <;> rw [show X.env.scope.names.lookup y = _ from k'] at k <;> cases k
    · rw [h2] at e'; cases e'
      exact ⟨c, h1, z.keeps kp⟩
  · obtain ⟨w, z⟩ := I.cell y c (mem e).1
    exact ⟨w, z.keeps kp⟩
  · have hp : p = (h'.objs.size, go) := by simpa using hp
    subst hp
    have hb : s.heap.objs.size ≤ h'.objs.size := by rw [hsz]; exact Nat.le_succ _
    refine ⟨hgo, I.hok.fresh hb, ?_, nstk _ hb, hd⟩
    show h'.objs.size ≠ s.heap.objs.size
    rw [hsz]; exact Nat.succ_ne_self _
/-- a table's growth -/
theorem As.tab {W : Wo} {G0 H0 : Hp} {pv : Pv} {σ : L2.St} {G H H' : Hp} {τ : List Sl} {n : Nat} {P : Addr} (A : As W G0 H0 pv σ G H τ n) (hP : P ∈ W.T) (h : GxR.Tabbed P H H') : As W G0 H0 pv σ G H' τ n := by
  obtain ⟨tg, ne⟩ := h
  have uP : W.U P := .inl hP
  obtain ⟨ps, eP, _⟩ := A.wi.1 P hP
  have neP : ∀ a, ¬ W.U a → H' a = H a := fun a u => ne a fun z => u (z ▸ uP)
  have keep : ∀ a o, H a = some o → (∀ q, o ≠ .tbl q) → H' a = some o := fun a o e q => by
    rw [ne a fun z => by rw [z, eP] at e; exact q ps (Option.some.inj e).symm]; exact e
  refine ⟨⟨A.gr.ex, fun a o e => ?_, fun a o u e => ?_, A.gr.nw⟩, ⟨fun p hp => ?_, fun p hp => ?_⟩, A.len, A.st, fun i ds e => ?_, A.sep, fun p hp => ?_⟩
  · obtain ⟨u, q⟩ := A.gr.sta a o e
    exact ⟨u, by rw [neP a u]; exact q⟩
  · rw [neP a u]; exact A.gr.fr a o u e
  · by_cases z : p = P
    · subst z; exact tg
    · obtain ⟨qs, e, t⟩ := A.wi.1 p hp
      exact ⟨qs, by rw [ne p z]; exact e, t⟩
  · obtain ⟨nn, cells, t, e1, e2, r⟩ := A.wi.2 p hp
    exact ⟨nn, cells, t, keep _ _ e1 (fun q z => nomatch z), keep _ _ e2 (fun q z => nomatch z), r⟩
  · obtain ⟨a, xs, e1, e2, r, e3, u, e4⟩ := A.ow i ds e
    exact ⟨a, xs, e1, by rw [neP a u]; exact e2, r, e3, u, e4⟩
  · obtain ⟨e1, e2, e3, e4, e5⟩ := A.pr p hp
    exact ⟨by rw [neP _ e3]; exact e1, e2, e3, e4, e5⟩
section
variable {X : Cx} {pins : List (Addr × Obj)} {σ : L2.St} {H : Hp} {s : Shared}
/-- the generator is made -/
theorem gen_mk {c P : Addr} {elt iter : Expr} {x : Str} {px gpos : Pos} {scope : Scope} {own : List (Str × Nat)} {ti : TI} {k : Nat} {Q' : Value → Shared → Prop} {RR : It → Hp → Prop}
    (hr : Room k X.A) (TB : GxR.TabB X.base X.mg c P) (hcode : X.env.code = .ref c) (hN : X.N.Nodup) (ok : BlkOk X.N X.env.scope scope own) (S : GSc scope x) (hi : PI X (.Name x px) iter ti) (hs : ∀ v, genFold iter X.env v = pure v) (I : Inv X pins σ H s)
    (h : ti σ H fun J H1 => GxR.TabG H1 P ∧ RR J H1)
    (hQ : ∀ (J : It) (H1 H2 : Hp) (s4 s5 : Shared) (it : Addr) (fp : List Addr) (tn : Nat → Heap → Prop) (code : Value) (a : Addr) (g : Nat) (go : Obj), RR J H1 → GxR.Tabbed P H1 H2 → Inv X pins σ H2 s4 → Turn X.prog X.w X.K (.Name x px) J fp it tn →
      (∀ b ∈ fp, FpOk X pins H2 b ∧ b ≠ a) → tn 0 s5.heap → s5.os = s4.os → AllBare s5.gens →
      s5.gens[g]? = some (.fresh (.compStart (.GeneratorExp elt [⟨.Name x px, iter, [], 0⟩] scope gpos) 0 (.ref it) .none (genEnv scope (cloFrom X.env.cells scope.names []) s4.heap.objs.size code builtinsNs X.env))) →
      (∀ h : Heap, h.get? a = some go → h.IsGen a g) →
      (∀ Aw : Around, Aw.handled = none → Aw.frames = some (genEnv scope (cloFrom X.env.cells scope.names []) s4.heap.objs.size code builtinsNs X.env :: X.stack) →
        Inv (gX X s4 H2 (genEnv scope (cloFrom X.env.cells scope.names []) s4.heap.objs.size code builtinsNs X.env) fp [(a, go)] Aw) [] (wipe σ (own.map (·.2))) H2 s5) → Q' (.ref a) s5) :
    wpAny (model X.prog X.w) X.A (eval (.GeneratorExp elt [⟨.Name x px, iter, [], 0⟩] scope gpos) X.env) Q' X.xe s := by
  have hfree : ∀ y ∈ scope.names, y.2 = .free → ∃ c, X.env.cells.lookup y.1 = some c := fun y hy e => by
    rcases ok.free y hy e with k | k
    · exact I.ok.has _ (.inl k)
    · exact I.ok.has _ (.inr k)
  refine wpAny_GeneratorExp_make S.co (closure_ok hfree) S.cell S.dot S.kind (by have := hr.dp; omega) ?_ hs
  refine thn (hi.run pins s σ H _ I h) fun xv s1 h1 => thn h1 fun itv s2 h2 => ?_
  obtain ⟨it, fp, tn, J, H1, rfl, I1, T, st, ffp, ⟨ps, hP, ht⟩, rr⟩ := h2
  refine ⟨I1.nolimit, ?_⟩
  have hPs : s2.heap.get? P = some { cls := .none, data := .fields ps } := I1.hok P _ hP
  have cd : PySem.W.CodeHd s2.heap c P := TB.code.keeps fun b u e => I1.bk b u e
  have fpP : ∀ b ∈ fp, b ≠ P := fun b hb z => by
    have := (ffp b hb).1
    rw [z, hP] at this; cases this
  have cont : ∀ (code : Value) (h3 : Heap) (tk : Nat) (ps' : Array Value), Heap.ExtBut P s2.heap h3 → h3.get? P = some { cls := .none, data := .fields ps' } → (∃ more, ps' = ps ++ more) → TriplesOk ps'.toList →
      wpAny (model X.prog X.w) X.A (builtinsFor X.env.globals X.env.builtins) (fun bi s₄ => ∀ h', h'.Ns s₄.heap.objs.size (fun y => if y = ".0" then some (Value.ref it) else none) → Heap.SameBut s₄.heap.objs.size (s₄.heap.push { cls := .type "frame", data := .dict #[] }) h' →
          Q' (.ref h'.objs.size) { s₄ with
            gens := s₄.gens.push (.fresh (.compStart (.GeneratorExp elt [⟨.Name x px, iter, [], 0⟩] scope gpos) 0 (.ref it) .none (genEnv scope (cloFrom X.env.cells scope.names []) s₄.heap.objs.size code bi X.env))),
            toks := s₄.toks + 1 + 1 + 1,
            heap := h'.push { cls := .type "generator", data := .fields #[.int s₄.gens.size 0, .str "<genexpr>" (s₄.toks + 1), .str (X.env.qual ++ "<genexpr>") (s₄.toks + 1 + 1)] } }) X.xe { s2 with heap := h3, toks := tk } := by
    intro code h3 tk ps' hx hP3 hmore ht3
    obtain ⟨bm, ob, e1, e2, e3, e4, e5, e6, e7, e8⟩ := TB.bm
    refine wpAny_builtinsFor (m := X.mg) (by rw [I1.ok.glob]; exact (I1.mod.glob.keeps I1.bk).extBut hx TB.gP) e1 e2 (hx _ _ e4 (I1.bk _ _ e5)) e6 e7 e8 ?_
    intro h' hn' hs'
    obtain ⟨more, rfl⟩ := hmore
    have I4 : Inv X pins σ (upd H1 P (.tbl (ps ++ more))) { s2 with heap := h3, toks := tk } := GxR.inv_tab (g' := s2.gens) (d' := s2.drawn) I1 hP (fun b o hb e => hx b o hb e) hP3 I1.bare
    have ffp4 : ∀ b ∈ fp, FpOk X pins (upd H1 P (.tbl (ps ++ more))) b := fun b hb => ⟨by rw [upd_ne (fpP b hb)]; exact (ffp b hb).1, (ffp b hb).2⟩
    have kp1 : ∀ b ∈ fp, ∀ o, s2.heap.get? b = some o → h3.get? b = some o := fun b hb o e => hx b o (fpP b hb) e
    have hsz : h'.objs.size = h3.objs.size + 1 := by rw [hs'.1, Heap.size_push]
    have kp0 : ∀ b o, h3.get? b = some o → h'.get? b = some o := fun b o e => hs'.extBut b o (Nat.ne_of_lt (Heap.lt_size e)) (Heap.get?_push_of_some _ e)
    have hpush : ∀ go : Obj, (∀ v, go.data ≠ .cell v) → (h'.push go).get? h'.objs.size = some go → go.cls = .type "generator" → (∃ nm qn, go.data = .fields #[.int s2.gens.size 0, nm, qn]) → go.slots = #[] →
        ∀ gc : GenState, gc = .fresh (.compStart (.GeneratorExp elt [⟨.Name x px, iter, [], 0⟩] scope gpos) 0 (.ref it) .none (genEnv scope (cloFrom X.env.cells scope.names []) h3.objs.size code builtinsNs X.env)) → ∀ tk5,
        Q' (.ref h'.objs.size) { s2 with heap := h'.push go, gens := s2.gens.push gc, toks := tk5 } := by
      intro go hd hgo hc ⟨nm, qn, hdt⟩ hsl gc egc tk5
      have hb5 : AllBare (s2.gens.push gc) := I1.bare.push (by rw [egc]; rfl)
      refine hQ J H1 _ { s2 with heap := h3, toks := tk } _ it fp tn code _ s2.gens.size go rr ⟨⟨_, upd_same, ht3⟩, fun b hb => upd_ne hb⟩ I4 T (fun b hb => ⟨ffp4 b hb, ?_⟩) ?_ rfl hb5 ?_ (fun h e => ⟨go, nm, qn, e, hc, hdt, hsl⟩) fun Aw hh hf => ?_
      · obtain ⟨o, e, _⟩ := T.obj _ _ st b hb
        have h1 := Heap.lt_size (kp1 b hb o e)
        have h2 : b < h'.objs.size := by rw [hsz]; exact Nat.lt_succ_of_lt h1
        exact Nat.ne_of_lt h2
      · exact T.keep _ _ _ st fun b hb o e => Heap.get?_push_of_some _ (kp0 b o (kp1 b hb o e))
      · rw [← egc]; exact Array.getElem?_push_size ..
      · refine gen_start (s := { s2 with heap := h3, toks := tk }) I4 ok hN S (fun b hb => ⟨ffp4 b hb, ?_⟩) hh hf hn' kp0 hsz hb5 hd hgo
        obtain ⟨o, e, _⟩ := T.obj _ _ st b hb
        exact Heap.lt_size (kp1 b hb o e)
    exact hpush _ (fun v q => by cases q) (Heap.get?_push_size _ rfl) rfl ⟨_, _, rfl⟩ rfl _ rfl _
  cases hf : codeAmong gpos ps.toList with
  | none =>
    refine wpAny_genexprCodeX hcode (cd.code hPs ht) (cd.tab hPs) hf fun c' h' tk hx hge hlt hco' _ htab' _ => ?_
    obtain ⟨o1, vs, f1, tf, fl, tg, inF, tx, tt, op, _, _, _, _, _, _, _, _, _, htr, _⟩ := hco'
    exact cont _ h' tk _ hx htab'.2 ⟨_, rfl⟩ htr
  | some cv =>
    refine wpAny_genexprCode_hit hcode (cd.code hPs ht) hf ?_
    exact cont cv s2.heap s2.toks ps (Heap.ExtBut.refl _ _) hPs ⟨#[], by simp⟩ ht
end
end M

set_option Elab.async false
set_option linter.all false
set_option maxRecDepth 100000
set_option maxHeartbeats 4000000
namespace M
open PySem PySem.Spec PyProof.Rows L2
/-! ### all(..) of a generator expression -/
def gY (GS : Nat → Shared → Prop) (bs : List Bool) : Protocol := fun m s₀ v s1 kap =>
  ∃ i b, m + (i + 1) = bs.length ∧ bs[i]? = some b ∧ v = .bool b ∧ GS (i + 1) s1 ∧ ∀ s'' : Shared, s''.heap = s1.heap → s''.os = s1.os → AllBare s''.gens → kap (.send .none) s''
def gE (GF : Shared → Prop) : GenEnd := fun n s₀ r s1 => r = .ok .next ∧ (n = 0 ∧ GF s1)
theorem drop_at {bs : List Bool} {i : Nat} {b : Bool} (h : bs[i]? = some b) : bs.drop i = b :: bs.drop (i + 1) := by
  obtain ⟨hl, e⟩ := List.getElem?_eq_some_iff.mp h
  rw [List.drop_eq_getElem_cons hl, e]
theorem all_loop {P : Program} {w : World} {A : Around} {a : Addr} {g : Nat} {bs : List Bool} {GS : Nat → Shared → Prop} {GF : Shared → Prop} {R : Result → Shared → Prop} (hh : A.handled = none) (hd : A.depth < recursionLimit)
    (hgen : ∀ i s, GS i s → s.heap.IsGen a g ∧ s.heap.NoLimit ∧ AllBare s.gens)
    (hst : ∀ i s s', GS i s → (∀ b o, s.heap.get? b = some o → s'.heap.get? b = some o) → s'.os = s.os → AllBare s'.gens → GS i s')
    (hF : ∀ i s, GS i s → GF s) (hFb : ∀ s, GF s → AllBare s.gens) (hFk : ∀ s s', GF s → (∀ b o, s.heap.get? b = some o → s'.heap.get? b = some o) → s'.os = s.os → AllBare s'.gens → GF s') :
    ∀ (k i : Nat) (s : Shared), bs.length - i = k → i ≤ bs.length → GS i s →
      (∃ gs, s.gens[g]? = some gs ∧ gs.Goes (model P w) A.in1.in1 (gE GF) (gY GS bs) (bs.length - i) (.send .none) (s.setGen g .running)) →
      (∀ s', GF s' → R (.ok (.ret (.bool ((bs.drop i).all id)))) s') → codeAny (model P w) A (.builtin "all.loop" ⟨[.ref a], []⟩) R s := by
  intro k
  induction k with
  | zero =>
    intro i s hk hi st ⟨gs, hgs, hgo⟩ hR
    have hin : i = bs.length := by omega
    subst hin
    rw [Nat.sub_self] at hgo
    obtain ⟨hg, hl, hb⟩ := hgen _ _ st
    refine codeAny_builtin F.entry_all_loop ?_
    rw [Around.under_plainId F.plain_all_loop _]
    show wpAny _ A.in1 (pyNext (.ref a) >>= _) _ _ s
    refine wpAny_bind (wpAny_pyNext_genexpQ (A := A.in1) (P := fun n s₀ s1 => n = 0 ∧ GF s1) hh hl hd hg hgs hgo (fun v s₁ gs' hb hv => ?_) (fun s₁ hp h' hk => ?_))
    · obtain ⟨i, b, _, _, _, _, hk⟩ := hv
      obtain ⟨_, hb1⟩ := (⟨trivial, (hgen _ _ ‹GS (i + 1) s₁›).2.2⟩ : True ∧ AllBare s₁.gens)
      exact False.elim (hk s₁ rfl rfl hb1)
    · obtain ⟨_, hg1⟩ := hp
      refine wpAny_bind (wpAny_rule (wpAny_pure ?_))
      have hb1 := hFb _ hg1
      have := hR { s₁.setGen g .finished with heap := h' } (hFk s₁ _ hg1 hk rfl (L2.allBare_setGen hb1 rfl))
      rw [List.drop_of_length_le (Nat.le_refl _)] at this
      exact this
  | succ k ih =>
    intro i s hk hi st ⟨gs, hgs, hgo⟩ hR
    have hlt : i < bs.length := by omega
    obtain ⟨hg, hl, hb⟩ := hgen _ _ st
    have hgl : g < s.gens.size := (Array.getElem?_eq_some_iff.mp hgs).1
    obtain ⟨m, hm⟩ : ∃ m, bs.length - i = m + 1 := ⟨bs.length - i - 1, by omega⟩
    rw [hm] at hgo
    refine codeAny_builtin F.entry_all_loop ?_
    rw [Around.under_plainId F.plain_all_loop _]
    show wpAny _ A.in1 (pyNext (.ref a) >>= _) _ _ s
    refine wpAny_bind (GenW.wpAny_gsz (n := g + 1) hgl (wpAny_pyNext_genexpQ (A := A.in1) (P := fun n s₀ s1 => n = 0 ∧ GF s1) hh hl hd hg hgs hgo (fun v s₁ gs' hbare hv => ?_) (fun s₁ hp h' hk => ?_)))
    · intro hsz
      obtain ⟨j, b, hj, hbj, rfl, st1, hkap⟩ := hv
      have hji : j = i := by omega
      subst hji
      have hb1 := (hgen _ _ st1).2.2
      have hsz1 : g < s₁.gens.size := by
        have q : (s₁.setGen g gs').gens.size = s₁.gens.size := by simp [Shared.setGen]
        have hsz' : g + 1 ≤ (s₁.setGen g gs').gens.size := hsz
        omega
      have st2 : GS (j + 1) (s₁.setGen g gs') := hst _ s₁ _ st1 (fun b o e => e) rfl (L2.allBare_setGen hb1 hbare)
      have dj := drop_at hbj
      refine wpAny_bind (wpAny_holding (wpAny_truthy_bool ?_))
      refine wpAny_bind (wpAny_letGo ?_)
      cases b with
      | true =>
        simp only [if_true]
        refine wpAny_pure ⟨plainId_quiet F.plain_all_loop _, ih (j + 1) _ (by omega) hlt st2 ⟨gs', L2.setGen_at hsz1, ?_⟩ fun s' q => ?_⟩
        · have e : bs.length - (j + 1) = m := by omega
          rw [e]
          exact hkap _ rfl rfl (L2.allBare_setGen (L2.allBare_setGen hb1 hbare) rfl)
        · have := hR s' q
          rw [dj, List.all_cons] at this
          exact this
      | false =>
        simp only [Bool.false_eq_true, if_false]
        refine wpAny_bind (wpAny_rule (wpAny_pure ?_))
        have := hR _ (hF _ _ st2)
        rw [dj, List.all_cons] at this
        exact this
    · exact absurd hp.1 (Nat.succ_ne_zero m)
theorem call_all_gen {P : Program} {w : World} {A : Around} {E : Value → Shared → Prop} {s : Shared} {a : Addr} {g : Nat} {bs : List Bool} {GS : Nat → Shared → Prop} {GF : Shared → Prop} {Q : Value → Shared → Prop} (hh : A.handled = none) (hd : A.depth + 3 < recursionLimit)
    (hgen : ∀ i s, GS i s → s.heap.IsGen a g ∧ s.heap.NoLimit ∧ AllBare s.gens)
    (hst : ∀ i s s', GS i s → (∀ b o, s.heap.get? b = some o → s'.heap.get? b = some o) → s'.os = s.os → AllBare s'.gens → GS i s')
    (hF : ∀ i s, GS i s → GF s) (hFb : ∀ s, GF s → AllBare s.gens) (hFk : ∀ s s', GF s → (∀ b o, s.heap.get? b = some o → s'.heap.get? b = some o) → s'.os = s.os → AllBare s'.gens → GF s')
    (st : GS 0 s) (hgs : ∃ gs, s.gens[g]? = some gs ∧ gs.Goes (model P w) A.in1.in1 (gE GF) (gY GS bs) bs.length (.send .none) (s.setGen g .running))
    (hQ : ∀ s', GF s' → Q (.bool (bs.all id)) s') : wpAny (model P w) A (call (.builtin "all") [.ref a]) Q E s := by
  refine call_function_tree F.kind_all F.plain_all F.entry_all (F.args_all1 _) ?_
  unfold Builtin.«all»
  refine wpAny_bind (m := oneArg "all" _) (wpAny_pure ?_)
  refine wpAny_bind (wpAny_pyIter_gen (hgen _ _ st).1 ?_)
  refine wpAny_pure ⟨plainId_quiet F.plain_all_loop _, all_loop (A := A) hh (by show A.depth < _; omega) hgen hst hF hFb hFk bs.length 0 s rfl (Nat.zero_le _) st (by rw [Nat.sub_zero]; exact hgs) fun s' q => ?_⟩
  have := hQ s' q
  rw [List.drop_zero]
  exact this
def Cn.gen (C : Cn) (s : Shared) (H : Hp) (scope : Scope) (cE : Addr) (cl : List (Str × Addr)) (code : Value) (fp : List Addr) (pn : List (Addr × Obj)) (Aw : Around) : Cn :=
  { C with X := gX C.X s H (genEnv scope cl cE code builtinsNs C.X.env) fp pn Aw, E := fun _ _ _ => False }
theorem boot_all1 : bootBuiltins "all" = some (.builtin "all") := by first | rfl | decide +kernel
section
variable {C : Cn} {τ : List Sl} {n : Nat} {pos : Pos} {Q : Av → List Sl → Nat → Prop}
theorem ex_all {c P : Addr} {x : Str} {j k : Nat} {px p gpos : Pos} {scope : Scope} {elt iter : Expr} (hr : Room (k + 4) C.X.A) (hz : Bl C.X "all") (TB : GxR.TabB C.X.base C.X.mg c P) (hPT : P ∈ C.W.T) (hcode : C.X.env.code = .ref c) (hc : C.X.calm = true) (hN : C.X.N.Nodup)
    (ok : BlkOk C.X.N C.X.env.scope scope [(x, j)]) (S : GSc scope x)
    (h : EI C τ n (.Name x px) iter fun ds τ1 n1 => (∀ es, τ1[j]? ≠ some (.ow es)) ∧ ∃ pd : PyData → Bool, (∀ d ∈ ds, ∀ s H cE cl code fp pn Aw, Room k Aw → EX (C.gen s H scope cE cl code fp pn Aw) ((wipeS τ1 [j]).set j (.st (.d d))) n1 elt
      fun y τ2 n2 => y = aB (pd d) ∧ τ2 = (wipeS τ1 [j]).set j (.st (.d d)) ∧ n2 = n1) ∧ Q (aB (ds.all pd)) τ1 n1)
    (hs : ∀ v, genFold iter C.X.env v = pure v := by intro _; rfl)
    (he : starEach [.GeneratorExp elt [⟨.Name x px, iter, [], 0⟩] scope gpos] C.X.env = (false, eval (.GeneratorExp elt [⟨.Name x px, iter, [], 0⟩] scope gpos) C.X.env) :: starEach [] C.X.env := by rfl) :
    EX C τ n (.Call (.Name "all" p) [.GeneratorExp elt [⟨.Name x px, iter, [], 0⟩] scope gpos] [] pos) Q := by
  intro pv σ G H R A kk pins s I
  refine wpAny_Call_Name_kw (ld_blt I hz.hg hz.hm boot_all1 ?_)
  refine PyProof.Rows.callWith_builtin1 ?_ he (by rfl)
  rw [he]
  show wpAny _ _ (spliced ((false, eval (.GeneratorExp elt [⟨.Name x px, iter, [], 0⟩] scope gpos) C.X.env) :: backTo pos (starEach [] C.X.env))) _ _ s
  refine Calls.spliced_cons (gen_mk (ti := RI C.X (.Name x px) iter) (own := [(x, j)]) (RR := fun J H1 => ∃ ds G1 τ1 n1, C.As pv σ G1 H1 τ1 n1 ∧ Ex G G1 ∧ SeqOk C J G1 ds ∧ ((∀ es, τ1[j]? ≠ some (.ow es)) ∧ ∃ pd : PyData → Bool, (∀ d ∈ ds, ∀ s H cE cl code fp pn Aw, Room k Aw → EX (C.gen s H scope cE cl code fp pn Aw) ((wipeS τ1 [j]).set j (.st (.d d))) n1 elt
      fun y τ2 n2 => y = aB (pd d) ∧ τ2 = (wipeS τ1 [j]).set j (.st (.d d)) ∧ n2 = n1) ∧ Q (aB (ds.all pd)) τ1 n1)) hr TB hcode hN ok S pi_ri hs I
    (h pv σ G H _ A fun J ds G1 H1 τ1 n1 A1 e1 sq q => ⟨A1.wi.1 P hPT, ds, G1, τ1, n1, A1, e1, sq, q⟩) fun J H1 H2 s4 s5 it fp tn code a g go rr tb I4 T ffp st os5 b5 gs5 hgen mk => ?_)
  obtain ⟨ds, G1, τ1, n1, A1, e1, sq, hno, pd, turn, fin⟩ := rr
  have A2 := As.tab A1 hPT tb
  generalize hcE : genEnv scope (cloFrom C.X.env.cells scope.names []) s4.heap.objs.size code builtinsNs C.X.env = cenv at gs5 mk
  have hrw : Room k (C.X.A.in1.in1.deeper cenv) := (((hr.mono (show k + 3 ≤ k + 4 by omega)).in1).in1).deeper cenv
  have hfr : (C.X.A.in1.in1.deeper cenv).frames = some (cenv :: C.X.stack) := Around.frames_deeper I.ok.frames
  have hhw : (C.X.A.in1.in1.deeper cenv).handled = none := hrw.hd
  have J5 := mk (C.X.A.in1.in1.deeper cenv) hhw hfr
  generalize hXg : gX C.X s4 H2 cenv fp [(a, go)] (C.X.A.in1.in1.deeper cenv) = Xg at J5
  have xA : Xg.A = C.X.A.in1.in1.deeper cenv := by rw [← hXg]
  have xP : Xg.prog = C.X.prog := by rw [← hXg]
  have xw : Xg.w = C.X.w := by rw [← hXg]
  have xK : Xg.K = C.X.K := by rw [← hXg]
  have xc : Xg.calm = true := by rw [← hXg]; exact hc
  have xE : Xg.env = cenv := by rw [← hXg]
  have xpn : Xg.pn = [(a, go)] := by rw [← hXg]
  let GS : Nat → Shared → Prop := fun i s' => ∃ G' H', Inv Xg [] (wipe σ [j]) H' s' ∧ C.As pv σ G' H' τ1 n1 ∧ Ex G1 G' ∧ tn i s'.heap ∧ ∀ b ∈ fp, H' b = none
  have hst : ∀ i s s', GS i s → (∀ b o, s.heap.get? b = some o → s'.heap.get? b = some o) → s'.os = s.os → AllBare s'.gens → GS i s' := fun i s s' ⟨G', H', J', A', e', t', f'⟩ hk ho hb =>
    ⟨G', H', J'.call' (ch := []) ho (Un.kept hk) (J'.hok.kept hk) hb (fun b z => absurd z (by simp)), A', e', T.keep _ _ _ t' fun b _ o q => hk b o q, f'⟩
  let GF : Shared → Prop := fun s' => ∃ G' H', Inv Xg [] (wipe σ [j]) H' s' ∧ C.As pv σ G' H' τ1 n1 ∧ Ex G1 G'
  have hF : ∀ i s, GS i s → GF s := fun i s ⟨G', H', J', A', e', _⟩ => ⟨G', H', J', A', e'⟩
  have hFb : ∀ s, GF s → AllBare s.gens := fun s ⟨G', H', J', _⟩ => J'.bare
  have hFk : ∀ s s', GF s → (∀ b o, s.heap.get? b = some o → s'.heap.get? b = some o) → s'.os = s.os → AllBare s'.gens → GF s' := fun s s' ⟨G', H', J', A', e'⟩ hk ho hb =>
    ⟨G', H', J'.call' (ch := []) ho (Un.kept hk) (J'.hok.kept hk) hb (fun b z => absurd z (by simp)), A', e'⟩
  have hgen' : ∀ i s, GS i s → s.heap.IsGen a g ∧ s.heap.NoLimit ∧ AllBare s.gens := fun i s ⟨G', H', J', _⟩ =>
    ⟨hgen _ (J'.pin (a, go) (by rw [xpn]; simp)).1, J'.nolimit, J'.bare⟩
  have stat : ∀ {s' : Shared} {H' : Hp}, Inv Xg [] (wipe σ [j]) H' s' → (∀ b ∈ fp, H' b = none) → ∀ b ∈ fp, FpOk Xg [] H' b := fun {s' H'} J' hn b hb => by
    refine ⟨hn b hb, ?_, ?_, .inl (by rw [← hXg]; exact hb), ?_, fun p hp z => ?_⟩
    · exact (J'.ok.exf b (by rw [← hXg]; exact hb)).1
    · exact J'.ok.exfs b (by rw [← hXg]; exact hb)
    · exact (J'.ok.exf b (by rw [← hXg]; exact hb)).2
    · rw [xpn] at hp
      have hp : p = (a, go) := by simpa using hp
      subst hp
      exact (ffp b hb).2 z.symm
  have lm : Lm Xg j x := ⟨by rw [← hXg]; exact ok.ix (x, j) (by simp), by rw [← hXg, ← hcE]; exact .inl S.loc, .inr (by rw [← hXg, ← hcE]; exact S.loc)⟩
  have xNd : Xg.N.Nodup := by rw [← hXg]; exact hN
  have keepO : ∀ (i : Nat) es, τ1[i]? = some (.ow es) → i ∉ [j] := fun i es q hj => by
    have hj : i = j := by simpa using hj
    subst hj
    exact hno es q
  -- the turns
  have hco : ∀ v, yieldOut cenv v = yieldValue v := fun v => by rw [← hcE]; simp only [yieldOut, genEnv, S.co, Bool.false_eq_true, if_false]
  have hlen : (ds.map pd).length = ds.length := List.length_map ..
  have seg : ∀ (k' i : Nat) (s0 s' : Shared), ds.length - i = k' → i ≤ ds.length → GS i s' → Seg (model C.X.prog C.X.w) C.X.A.in1.in1 (gE GF) (gY GS (ds.map pd)) (ds.length - i) s0
      (.compLoop (.GeneratorExp elt [⟨.Name x px, iter, [], 0⟩] scope gpos) 0 (.ref it) .none cenv) ((model C.X.prog C.X.w).den (.compLoop (.GeneratorExp elt [⟨.Name x px, iter, [], 0⟩] scope gpos) 0 (.ref it) .none cenv)) [] s' := by
    intro k'
    induction k' with
    | zero =>
      intro i s0 s' hk hi ⟨G', H', J', A', e', t', f'⟩
      have hin : i = ds.length := by omega
      subst hin
      rw [Nat.sub_self]
      show Seg _ C.X.A.in1.in1 _ _ _ s0 _ ((compTurn (.GeneratorExp elt [⟨.Name x px, iter, [], 0⟩] scope gpos) 0 (.ref it) .none cenv).onRaise (leaving cenv)) [] s'
      rw [compTurn_gen, Sem.onRaise_eq_wrap]
      refine seg_bind_wrap (wpAny_standAt ?_)
      refine seg_bind_wrap ?_
      rw [over_cl, ← xA]
      refine wpAny_mono (T.done Xg xP xw xK xc _ [] s' _ H' (fun _ _ => False) J' (stat J' f') t' (sq.stop _ _ _ _ _ _ _ A' e' (Nat.le_refl _))) (fun r s1 hr => ?_) fun _ _ z => z.elim
      obtain ⟨rfl, J1⟩ := hr
      exact seg_end (.ok .next) ⟨rfl, rfl, _, _, J1, A', e'⟩
    | succ k' ih =>
      intro i s0 s' hk hi ⟨G', H', J', A', e', t', f'⟩
      have hlt : i < ds.length := by omega
      obtain ⟨m, hm⟩ : ∃ m, ds.length - i = m + 1 := ⟨ds.length - i - 1, by omega⟩
      rw [hm]
      have hd : ds[i]? = some ds[i] := List.getElem?_eq_getElem hlt
      obtain ⟨go1, yld⟩ := sq.go pv σ G' H' τ1 n1 i _ A' e' hd
      show Seg _ C.X.A.in1.in1 _ _ _ s0 _ ((compTurn (.GeneratorExp elt [⟨.Name x px, iter, [], 0⟩] scope gpos) 0 (.ref it) .none cenv).onRaise (leaving cenv)) [] s'
      rw [compTurn_gen, Sem.onRaise_eq_wrap]
      refine seg_bind_wrap (wpAny_standAt ?_)
      refine seg_bind_wrap ?_
      rw [over_cl, ← xA]
      refine wpAny_mono (T.item Xg xP xw xK xc i [] s' _ H' (fun _ _ => False) J' (stat J' f') t' go1) (fun r s1 hr => ?_) fun _ _ z => z.elim
      obtain ⟨u, rfl, h4⟩ := hr
      refine seg_bind_wrap ?_
      rw [over_cl, ← xA]
      refine wpAny_mono h4 (fun _ s2 h2 => ?_) fun _ _ z => z.elim
      obtain ⟨xv, H3, I3, r3, y3, st3, fr3⟩ := h2
      obtain ⟨G3, A3, e3, r3d⟩ := yld xv H3 y3
      have I3' := I3.pinned (stat I3 fr3) (T.obj _ _ st3)
      refine seg_bind_wrap ?_
      rw [over_cl, ← xA]
      have tgr := (tg_name (p := px) xNd lm).run C.WK C.G0 C.H0 pv (wipe σ [j]) G3 H3 (wipeS τ1 [j]) n1 xv ds[i] (fun σ' H8 => H8 = H3 ∧ C.As pv σ' G3 H3 ((wipeS τ1 [j]).set j (.st (.d ds[i]))) n1 ∧ wipe σ' [j] = wipe σ [j] ∧ ∀ i', i' ∉ [j] → σ'[i']? = σ[i']?)
        xK.symm (A3.wipe [j]) r3d trivial fun σ' A8 hw hk8 => ⟨rfl, A8, by rw [hw]; exact wipe_wipe σ [j], fun i' hi' => by rw [hk8 i' hi', wipe_ne hi']⟩
      have tgr2 := tgr _ s2 u I3' r3
      rw [xP, xw, xE] at tgr2
      refine wpAny_mono tgr2 (fun _ s8 h8 => ?_) fun e s z => (by rw [← hXg] at z; exact z.elim)
      obtain ⟨σ8, H8, I8, eH, A8, hw8, hk8⟩ := h8
      rw [eH] at I8
      simp only [List.forIn_nil]
      refine seg_bind_wrap (wpAny_pure ?_)
      simp only [if_true, hco]
      rw [Sem.bind_eq_wrap', Sem.bind_eq_wrap', Sem.wrap_wrap, Sem.wrap_wrap]
      refine seg_wrap ?_
      rw [over_cl, ← xA]
      have er : RE Xg elt σ8 H3 (fun y H9 => y = V.bl (pd ds[i]) ∧ ∃ G9, C.As pv σ8 G9 H9 ((wipeS τ1 [j]).set j (.st (.d ds[i]))) n1 ∧ Ex G3 G9) := by
        have tt := turn ds[i] (List.getElem_mem hlt) s4 H2 s4.heap.objs.size (cloFrom C.X.env.cells scope.names []) code fp [(a, go)] (C.X.A.in1.in1.deeper cenv) hrw
        have t2 := tt pv σ8 G3 H3 (fun y H9 => y = V.bl (pd ds[i]) ∧ ∃ G9, C.As pv σ8 G9 H9 ((wipeS τ1 [j]).set j (.st (.d ds[i]))) n1 ∧ Ex G3 G9) A8 fun v y G9 H9 τ9 n9 A9 e9 r9 ⟨ey, et, en⟩ => by
          subst ey et en
          exact ⟨r9.bool, G9, A9, e9⟩
        rw [← hXg, ← hcE]
        rw [← hcE] at t2
        exact t2
      have e2 := er _ s8 I8
      rw [xP, xw, xE] at e2
      refine wpAny_mono e2 (fun y s9 h9 => ?_) fun e s z => (by rw [← hXg] at z; exact z.elim)
      obtain ⟨v9, H9, I9, rv9, ev9, G9, A9, e9⟩ := h9
      subst ev9
      have ey : y = Value.bool (pd ds[i]) := rv9
      subst ey
      have hl : (wipe σ [j]).length = σ8.length := by
        have := congrArg List.length hw8
        rw [wipe_length, wipe_length] at this
        rw [wipe_length]; exact this.symm
      have g9 : GS (i + 1) s9 := by
        have pin' : ∀ b ∈ fp, ∀ o, s2.heap.get? b = some o → s9.heap.get? b = some o ∧ H9 b = none := fun b hb o e =>
          let z := I9.pin (b, o) (List.mem_append_right _ (List.mem_append_right _ (mem_pinsAt hb e)))
          ⟨z.1, z.2.1⟩
        refine ⟨G9, H9, (I9.unpinned (pins := [])).weak hl (fun q v e => ?_), A3.rewind A9 e9 fun q es hq => ?_, (e'.trans e3).trans e9, T.keep _ _ _ st3 fun b hb o e => (pin' b hb o e).1, fun b hb => ?_⟩
        · rw [← hw8] at e
          exact (wipe_some e).1
        · have hj := keepO q es hq
          refine ⟨?_, ?_⟩
          · rw [List.getElem?_set_ne (fun z => hj (by simp [z])), wipeS_ne hj]; exact hq
          · exact hk8 q hj
        · obtain ⟨o, e, _⟩ := T.obj _ _ st3 b hb
          exact (pin' b hb o e).2
      refine seg_at (seg_yield rfl rfl rfl ⟨i, pd ds[i], by rw [hlen]; omega, by rw [List.getElem?_map, hd]; rfl, rfl, g9, fun s'' e1 e2 e3 => ?_⟩)
      have hm' : ds.length - (i + 1) = m := by omega
      rw [← hm']
      exact seg_again rfl (ih (i + 1) s'' s'' (by omega) hlt (hst _ _ _ g9 (fun b o q => by rw [e1]; exact q) e2 e3))
  have g0 : GS 0 s5 := ⟨G1, H2, J5, A2, Ex.refl _, st, fun b hb => (ffp b hb).1.1⟩
  refine Calls.spliced_nil ?_
  refine call_all_gen (GS := GS) (GF := GF) (bs := ds.map pd) (g := g) hr.hd (by have := hr.dp; omega) hgen' hst hF hFb hFk g0 ⟨_, gs5, rfl, ?_⟩ fun s' ⟨G', H', J', A', e'⟩ => ?_
  · have g1 : GS 0 (s5.setGen g .running) := hst _ _ _ g0 (fun b o q => q) rfl (L2.allBare_setGen b5 rfl)
    have loop := seg ds.length 0 (s5.setGen g .running) (s5.setGen g .running) rfl (Nat.zero_le _) g1
    rw [Nat.sub_zero, ← hlen] at loop
    show Seg _ C.X.A.in1.in1 _ _ _ _ _ ((compStart (.GeneratorExp elt [⟨.Name x px, iter, [], 0⟩] scope gpos) 0 (.ref it) .none cenv).onRaise (leaving cenv)) [] _
    unfold compStart
    rw [Sem.onRaise_eq_wrap]
    show Seg _ C.X.A.in1.in1 _ _ _ _ _ ((ask >>= _).wrap _ _ _ _) [] _
    refine seg_bind_wrap (wpAny_askSetting ?_)
    split
    · exact seg_again rfl loop
    · refine seg_bind_wrap (wpAny_rule ?_)
      show Seg _ C.X.A.in1.in1 _ _ _ _ _ ((standAt iter.pos >>= _).wrap _ _ _ _) [] _
      exact seg_bind_wrap (wpAny_standAt (seg_bind_wrap (T.self _ 0 _ _ _ st (seg_again rfl loop))))
  · have I' : Inv C.X pins σ H' s' := I4.call' (ch := fp) ?_ ?_ (by have := J'.hok; rw [xP, xw] at this; exact this) J'.bare fun b hb => ?_
    · refine ⟨.bl _, H', I', rfl, ?_⟩
      have eb : (ds.map pd).all id = ds.all pd := by rw [List.all_map]; rfl
      rw [eb]
      exact kk _ (aB _) G' H' τ1 n1 A' (e1.trans e') (rv_bool _) fin
    · have := J'.os
      rw [← hXg] at this
      exact this
    · have := J'.base
      rw [← hXg] at this
      exact this
    · have f := (ffp b hb).1
      exact ⟨f.2.2.2.1, f.2.1, f.2.2.2.2.1, f.2.2.2.2.2⟩
end
end M

set_option Elab.async false
set_option linter.all false
set_option maxRecDepth 100000
set_option maxHeartbeats 4000000
namespace M
open PySem PySem.Spec PyProof.Rows L2
/-! ### an own list lent for reading -/
def rem (G : Hp) (p : Addr) : Hp := fun a => if a = p then none else G a
theorem rem_some {G : Hp} {p a : Addr} {o : HO} (h : rem G p a = some o) : a ≠ p ∧ G a = some o := by
  unfold rem at h
  by_cases z : a = p
  · rw [if_pos z] at h; cases h
  · rw [if_neg z] at h; exact ⟨z, h⟩
theorem ex_rem {G G' : Hp} {p : Addr} {o : HO} (n : G p = none) (e : Ex (upd G p o) G') : Ex G (rem G' p) := fun a q h => by
  have z : a ≠ p := fun z => by rw [z, n] at h; cases h
  show (if a = p then none else G' a) = some q
  rw [if_neg z]
  exact e a q (by rw [upd_ne z]; exact h)
theorem As.lend {W : Wo} {G0 H0 : Hp} {pv : Pv} {σ : L2.St} {G H : Hp} {τ : List Sl} {n : Nat} (A : As W G0 H0 pv σ G H τ n) {i : Nat} {ds : List PyData} (hi : τ[i]? = some (.ow ds)) (ho : ∀ (j : Nat) es, j ≠ i → τ[j]? = some (.ow es) → ∃ ns, es = dints ns) :
    ∃ p xs, σ[i]? = some (some (.ref p)) ∧ G p = none ∧ DtAll W.K G xs ds ∧ As W G0 H0 pv σ (upd G p (.lst xs)) H (τ.set i (.st (.d (.list ds)))) n ∧
      ∀ G' H' n', As W G0 H0 pv σ G' H' (τ.set i (.st (.d (.list ds)))) n' → Ex (upd G p (.lst xs)) G' → As W G0 H0 pv σ (rem G' p) H' τ n' := by
  obtain ⟨p, xs, e1, e2, r2, e3, u, e4⟩ := A.ow i ds hi
  have hlt : i < τ.length := (List.getElem?_eq_some_iff.mp hi).1
  have ex : Ex G (upd G p (.lst xs)) := Ex.new e3
  have back : ∀ (m : Nat) zs, (τ.set i (.st (.d (.list ds))))[m]? = some (.ow zs) → i ≠ m ∧ τ[m]? = some (.ow zs) := fun m zs q => by
    rcases set_some q with ⟨_, q, _⟩ | ⟨q1, q⟩
    · cases q
    · exact ⟨q1, q⟩
  refine ⟨p, xs, e1, e3, r2, ⟨⟨A.gr.ex.trans ex, fun b o e => ?_, A.gr.fr, fun b e => ?_⟩, A.wi, by simp [A.len], fun j y e => ?_, fun j es e => ?_, fun j k b es fs hjk q1 q2 h1 h2 => ?_, fun q hq => ?_⟩, fun G' H' n' A' e' => ?_⟩
  · by_cases hb : b = p
    · subst hb; rw [upd_same] at e; cases e; exact ⟨u, e2⟩
    · rw [upd_ne hb] at e; exact A.gr.sta b o e
  · by_cases hb : b = p
    · subst hb; exact .inr e4
    · rw [upd_ne hb] at e; exact A.gr.nw b e
  · rcases set_some e with ⟨rfl, q, _⟩ | ⟨hj, q⟩
    · cases q
      exact ⟨.ref p, e1, Dt.lst upd_same (dpAll_ex ex _ _ r2)⟩
    · obtain ⟨v, q1, q2⟩ := A.st j y q
      exact ⟨v, q1, q2.ex ex⟩
  · obtain ⟨hj, q⟩ := back j es e
    obtain ⟨b, zs, q1, q2, q3, q4, q5, q6⟩ := A.ow j es q
    refine ⟨b, zs, q1, q2, dpAll_ex ex _ _ q3, ?_, q5, q6⟩
    rw [upd_ne (show b ≠ p from fun z => A.sep i j p ds es hj hi q e1 (by rw [← z]; exact q1))]
    exact q4
  · exact A.sep j k b es fs hjk (back j es q1).2 (back k fs q2).2 h1 h2
  · obtain ⟨z1, z2, z3, z4, z5⟩ := A.pr q hq
    refine ⟨z1, ?_, z3, z4, fun j es e => z5 j es (back j es e).2⟩
    rw [upd_ne (show q.1 ≠ p from fun z => z5 i ds hi (by rw [e1, z]))]
    exact z2
  · have exG : Ex G (rem G' p) := ex_rem e3 e'
    have hp : G' p = some (.lst xs) := e' p _ upd_same
    refine ⟨⟨A.gr.ex.trans exG, fun b o e => A'.gr.sta b o (rem_some e).2, A'.gr.fr, fun b e => A'.gr.nw b fun z => e (by show (if b = p then none else G' b) = none; rw [z]; simp)⟩, A'.wi, A.len, fun j y e => ?_, fun j es e => ?_, A.sep, fun q hq => ?_⟩
    · obtain ⟨v, q1, q2⟩ := A.st j y e
      exact ⟨v, q1, q2.ex exG⟩
    · by_cases hj : i = j
      · subst hj
        rw [hi] at e
        cases e
        exact ⟨p, xs, e1, (A'.gr.sta p _ hp).2, dpAll_ex exG _ _ r2, by show (if p = p then none else G' p) = none; rw [if_pos rfl], u, e4⟩
      · obtain ⟨b, zs, q1, q2, q3, q4, q5, q6⟩ := A'.ow j es (by rw [List.getElem?_set_ne hj]; exact e)
        obtain ⟨b', zs', q1', q2', q3', _⟩ := A.ow j es e
        rw [q1] at q1'
        cases q1'
        have nb : b ≠ p := fun z => by rw [z, hp] at q4; cases q4
        obtain ⟨b2, ys, w1, w2, w3, _⟩ := A'.ow j es (by rw [List.getElem?_set_ne hj]; exact e)
        rw [q1] at w1
        cases w1
        rw [q2] at w2
        cases w2
        refine ⟨b, zs, q1, q2, ?_, by show (if b = p then none else G' b) = none; rw [if_neg nb]; exact q4, q5, q6⟩
        obtain ⟨ns, rfl⟩ := ho j es (Ne.symm hj) e
        rw [dpa_ints q3]
        exact dpAll_ints ns
    · obtain ⟨z1, z2, z3, z4, z5⟩ := A'.pr q hq
      obtain ⟨_, _, _, _, y5⟩ := A.pr q hq
      exact ⟨z1, by show (if q.1 = p then none else G' q.1) = none; rw [z2]; simp, z3, z4, y5⟩
/-- what holds no address -/
def Scal : Av → Prop
  | .d .none => True
  | .d (.bool _) => True
  | .d (.int _) => True
  | .d (.str _) => True
  | _ => False
theorem Scal.rv {W : Wo} {G G' : Hp} {v : V} {x : Av} (s : Scal x) (r : Rv W G v x) : Rv W G' v x := by
  cases x with
  | d d =>
    cases d with
    | none => rw [r.none]; exact rv_none
    | bool b => rw [r.bool]; exact rv_bool b
    | int i => rw [r.int]; exact rv_int i
    | str z => rw [r.str]; exact rv_str z
    | _ => exact s.elim
  | _ => exact s.elim
abbrev OwI (τ : List Sl) (i : Nat) : Prop := ∀ (j : Nat) es, j ≠ i → τ[j]? = some (.ow es) → ∃ ns, es = dints ns
section
variable {C : Cn} {τ : List Sl} {n : Nat} {e a b c : Expr} {es : List Expr} {pos : Pos} {Q : Av → List Sl → Nat → Prop} {QT : Bool → List Sl → Nat → Prop} {x y : Av} {xs : List Av} {D : AE} {QF : List PyData → List Sl → Nat → Prop}
theorem ex_borrow {i : Nat} {ds : List PyData} (hi : τ[i]? = some (.ow ds)) (ho : OwI τ i)
    (h : EX C (τ.set i (.st (.d (.list ds)))) n e fun x τ1 n1 => τ1 = τ.set i (.st (.d (.list ds))) ∧ Scal x ∧ Q x τ n1) : EX C τ n e Q := by
  intro pv σ G H R A k
  obtain ⟨p, xs, e1, e3, r2, A1, back⟩ := As.lend A hi ho
  refine h pv σ _ H _ A1 fun v x G' H' τ1 n1 A' e' r' ⟨et, sc, q⟩ => ?_
  subst et
  exact k v x (rem G' p) H' τ n1 (back G' H' n1 A' e') (ex_rem e3 e') (sc.rv r') q
theorem et_borrow {i : Nat} {ds : List PyData} (hi : τ[i]? = some (.ow ds)) (ho : OwI τ i)
    (h : ET C (τ.set i (.st (.d (.list ds)))) n e fun x τ1 n1 => τ1 = τ.set i (.st (.d (.list ds))) ∧ QT x τ n1) : ET C τ n e QT := by
  intro pv σ G H R A k
  obtain ⟨p, xs, e1, e3, r2, A1, back⟩ := As.lend A hi ho
  refine h pv σ _ H _ A1 fun x G' H' τ1 n1 A' e' ⟨et, q⟩ => ?_
  subst et
  exact k x (rem G' p) H' τ n1 (back G' H' n1 A' e') (ex_rem e3 e') q
/-- a fresh list of ints, read off an own one -/
theorem ef_borrow {i : Nat} {ds : List PyData} (hi : τ[i]? = some (.ow ds)) (ho : OwI τ i)
    (h : EF C (τ.set i (.st (.d (.list ds)))) n e fun xs τ1 n1 => τ1 = τ.set i (.st (.d (.list ds))) ∧ (∃ ns, xs = dints ns) ∧ QF xs τ n1) : EF C τ n e QF := by
  intro pv σ G H R A k
  obtain ⟨p, xs, e1, e3, r2, A1, back⟩ := As.lend A hi ho
  refine h pv σ _ H _ A1 fun q vs es G' H' τ1 n1 A' e' hq d ⟨et, ⟨ns, hns⟩, qq⟩ => ?_
  subst et
  refine k q vs es (rem G' p) H' τ n1 (back G' H' n1 A' e') (ex_rem e3 e') hq ?_ qq
  subst hns
  rw [dpa_ints d]
  exact dpAll_ints ns
/-- a fresh list is a value -/
theorem ex_ef (h : EF C τ n e fun ds τ1 n1 => Q (.d (.list ds)) τ1 n1) : EX C τ n e Q := by
  intro pv σ G H R A k
  refine h pv σ G H _ A fun p vs ds G' H' τ' n' A' e' hp d q => ?_
  have ex : Ex G' (upd G' p (.lst vs)) := Ex.new (A'.freshG hp)
  exact k _ _ _ _ τ' n' (A'.new hp) (e'.trans ex) (rv_lst upd_same (dpAll_ex ex _ _ d)) q
theorem ef_rev {k : Nat} {p1 p2 p3 : Pos} (h : EX C τ n a fun x τ1 n1 => ∃ ds, x = .d (.list ds) ∧ QF ds.reverse τ1 n1) : EF C τ n (.Subscript a (.Slice none none (some (.UnaryOp .USub (.Constant (.int 1) k p1) p2)) p3) pos) QF := by
  intro pv σ G H R A kk
  refine re_of (pe_revL pe_re) ?_
  refine h pv σ G H _ A fun v x G1 H1 τ1 n1 A1 e1 r1 ⟨ds, ex, q⟩ => ?_
  subst ex
  obtain ⟨l, ys, rfl, hl, d1⟩ := r1.list
  exact ⟨l, ys, rfl, SqL.of (A1.gh _ _ hl), fun p hp => kk p _ _ G1 H1 τ1 n1 A1 e1 hp (dpa_rev d1) q⟩
/-- own[i] = e -/
theorem sx_setO {i : Nat} {z : Str} {p p2 : Pos} {ds : List PyData} {idx : Expr} (hz : Nm C.X i z) (ht : τ[i]? = some (.ow ds))
    (h : EX C τ n e fun y τ1 n1 => ∃ d, y = .d d ∧ EX C τ1 n1 idx fun k τ2 n2 => ∃ ds' j m, τ2[i]? = some (.ow ds') ∧ k = aI j ∧ ixN ds'.length j = some m ∧ D.nx (τ2.set i (.ow (ds'.set m d))) n2)
    (hs : swapsWithSole [.Subscript (.Name z p) idx p2] e pos.line C.X.env = pure false := by rfl) (hw : swappedStores [.Subscript (.Name z p) idx p2] e C.X.env = pure none := by rfl)
    (h1 : (assignEach [.Subscript (.Name z p) idx p2] C.X.env).map (·.2) = [assign (.Subscript (.Name z p) idx p2) C.X.env] := by rfl)
    (ha : ∀ v, assign (.Subscript (.Name z p) idx p2) C.X.env v = (do
      let ov ← holding [v] (eval (.Name z p) C.X.env)
      let iv ← holding [v, ov] (eval idx C.X.env)
      standAt p2
      holding [v, ov, iv] (setItem ov iv v)
      release [v, ov, iv] []) := by intro _; rfl) : SX C τ n (.Assign [.Subscript (.Name z p) idx p2] e pos) D := by
  intro σ G H Dc A k
  refine rs_of (ps_asg pe_re (pg_sub (pe_var hz.hN hz.hv hz.hd hz.hc) pe_re set_list (ha := ha)) hs hw h1) ?_
  refine h [] σ G H _ A fun u y G1 H1 τ1 n1 A1 e3 r1 ⟨d, ey, h2⟩ => ?_
  subst ey
  obtain ⟨q0, xs0, e0, _⟩ := A.ow i ds ht
  refine ⟨_, e0, ?_⟩
  refine h2 [] σ G1 H1 _ A1 fun v kx G2 H2 τ2 n2 A2 e4 r2 ⟨ds', j, m, ht1, ek, hm, qq⟩ => ?_
  subst ek
  obtain ⟨q', ys, e1', e2', d1, _⟩ := A2.ow i ds' ht1
  rw [e0] at e1'
  cases e1'
  rw [r2.int]
  exact ⟨q0, ys, j, m, rfl, rfl, e2', by rw [dpa_len d1]; exact hm, k.nx _ G2 _ _ n2 (A2.mut ht1 e0 (dpa_set (dp_ex e4 _ _ r1) m d1)) (e3.trans e4) qq⟩
theorem ex_lenSet {p p2 q : Pos} (hz : Bl C.X "len") (hz2 : Bl C.X "set") (hc : C.X.calm = true) (h : EX C τ n a fun x τ1 n1 => ∃ ns : List Int, x = aL ns ∧ ns.Nodup ∧ ns.length < 64 ∧ Q (aI ns.length) τ1 n1)
    (na : starEach [a] C.X.env = (false, eval a C.X.env) :: starEach [] C.X.env := by rfl) : EX C τ n (.Call (.Name "len" p) [.Call (.Name "set" p2) [a] [] q] [] pos) Q := by
  intro pv σ G H R A k
  refine re_of (L2.pe_lenSetI hc hz.hg hz.hm hz2.hg hz2.hm pe_re na) ?_
  refine h pv σ G H _ A fun v x G1 H1 τ1 n1 A1 e1 r1 ⟨ns, ex, hn, hl, q⟩ => ?_
  subst ex
  obtain ⟨l, ys, rfl, hl1, d1⟩ := r1.list
  rw [dpa_ints d1] at hl1
  exact ⟨l, ns, rfl, SqL.of (A1.gh _ _ hl1), hl, hn, k _ _ G1 H1 τ1 n1 A1 e1 (rv_int _) q⟩
end

/-! ### defs by the head's data -/
/-- a fresh list is told -/
abbrev ASpF := List Av → Nat → (List PyData → Nat → Prop) → Prop
def spOfF (W : Wo) (asp : ASpF) : Sp := fun vs H Q _ => ∃ G xs n R, Sta W G H ∧ WI W n H ∧ RvAll W G vs xs ∧ asp xs n R ∧
  (∀ p us ds n' G' H', Gr W G H G' H' → WI W n' H' → H' p = none → DtAll W.K G' us ds → R ds n' → Q (.ref p) (upd H' p (.lst us)))
section
variable {P : Program} {w : World} {K : PySem.W.Frag} {mg : Str → Option Value} {base : Heap} {W : Wo}
theorem start_as {N ps : List Str} {vs : List V} {xs : List Av} {G H : Hp} {n : Nat} (sta : Sta W G H) (wi : WI W n H) (r : RvAll W G vs xs) : As W G H [] (L2.start N vs) G H (startS N xs) n := by
  have hv := r.len
  refine ⟨Gr.refl sta, wi, ?_, fun i x e => ?_, fun i ds e => ?_, fun i j a ds es _ e1 e2 _ _ => ?_, fun p hp => absurd hp (by simp)⟩
  · unfold L2.start startS
    simp only [List.length_append, List.length_map, List.length_replicate, hv]
  · unfold startS at e
    have hi : i < xs.length := by
      by_cases hi : i < xs.length
      · exact hi
      · rw [List.getElem?_append_right (by simpa using hi), List.getElem?_replicate] at e
        split at e <;> cases e
    rw [List.getElem?_append_left (by simpa using hi), List.getElem?_map] at e
    cases q : xs[i]? with
    | none => rw [q] at e; cases e
    | some z =>
      rw [q] at e
      cases e
      obtain ⟨v, h1, r1⟩ := r.get q
      refine ⟨v, ?_, r1⟩
      unfold L2.start
      rw [List.getElem?_append_left (by rw [List.length_map, hv]; exact hi), List.getElem?_map, h1]; rfl
  · unfold startS at e
    exfalso
    by_cases hi : i < xs.length
    · rw [List.getElem?_append_left (by simpa using hi), List.getElem?_map] at e
      cases q : xs[i]? with
      | none => rw [q] at e; cases e
      | some z => rw [q] at e; cases e
    · rw [List.getElem?_append_right (by simpa using hi), List.getElem?_replicate] at e
      split at e <;> cases e
  · unfold startS at e1
    exfalso
    by_cases hi : i < xs.length
    · rw [List.getElem?_append_left (by simpa using hi), List.getElem?_map] at e1
      cases q : xs[i]? with
      | none => rw [q] at e1; cases e1
      | some z => rw [q] at e1; cases e1
    · rw [List.getElem?_append_right (by simpa using hi), List.getElem?_replicate] at e1
      split at e1 <;> cases e1
/-- the context of a def's body, by its scope -/
def cnD (P : Program) (w : World) (K : PySem.W.Frag) (mg : Str → Option Value) (base : Heap) (N : List Str) (qual : Str) (sc : Scope) (f : Addr) (cd : Value) (A : Around) (outer : List Env) (s : Shared) (H : Hp) (E : XK) (W : Wo) (G : Hp) (RE : Addr → Nat → Prop) : Cn :=
  cnOf P w K mg base N qual sc f cd A outer s H E W G RE
theorem bd_of {N ps : List Str} {qual : Str} {sc : Scope} {f : Addr} {cdv : Value} {A : Around} {outer : List Env} {s : Shared} {H : Hp} {E : XK} {G : Hp} {RE : Addr → Nat → Prop} {k : Nat} (S : FnScope N ps sc) (hr : Room k (A.deeper (envOfC qual sc s.heap.objs.size f cdv)))
    (kE : ∀ c n' G' H', Gr { W with K := K } G H G' H' → WI { W with K := K } n' H' → RE c n' → E (.ref c) none H') : Bd (cnOf P w K mg base N qual sc f cdv A outer s H E W G RE) k := by
  refine ⟨?_, hr, S.nd, rfl, passes_of (X := cxOf (CX P w) P w K mg base N qual sc f cdv A outer s H E) rfl⟩
  refine Takes.imp (W := fun cls d _ H => E cls d H) (takes_of (X := cxOf (CX P w) P w K mg base N qual sc f cdv A outer s H E) rfl rfl rfl rfl) fun cls d σ H' ⟨e1, c, τ, n', G', e2, A', q⟩ => ?_
  subst e1 e2
  exact kE c n' G' H' A'.gr A'.wi q
theorem fd_asp {x qual : Str} {ar : Arguments} {body : List Stmt} {sc : Scope} {f : Addr} {fd : FuncData} {N ps : List Str} {k : Nat} {asp : ASp} (F : FunD K x qual ar body sc [] [] f fd) (S : FnScope N ps sc) (len : ∀ xs n R RE, asp xs n R RE → xs.length = ps.length)
    (hb : ∀ cd A outer s H E G xs n R RE, asp xs n R RE → Bd (cnOf P w K mg base N qual sc f cd A outer s H E W G RE) k → fd.code = cd →
      SXs (cnOf P w K mg base N qual sc f cd A outer s H E W G RE) (startS N xs) n body { nx := fun _ n' => R aN n', rt := R }) :
    FnOk P w K mg base (CX P w) (k + 1) f fd ps (spOf { W with K := K } asp) := by
  obtain ⟨oc, od, dV, kV, doc, pm, an, cdv, ct, osl, rfl, lk, hcd, _, _⟩ := F.ex
  refine fn_of lk hcd S (fun vs H Q E ⟨G, xs, n, R, RE, _, _, r, h, _⟩ => by rw [r.len]; exact len xs n R RE h) (fun A outer s H vs Q E hr ⟨G, xs, n, R, RE, sta, wi, r, h, kR, kE⟩ => ?_)
  refine ⟨RSs (cxOf (CX P w) P w K mg base N qual sc f cdv A outer s H E) body, pss_rs, ?_⟩
  refine hb cdv A outer s H E G xs n R RE h (bd_of S hr kE) rfl (L2.start N vs) G H _ (start_as (ps := ps) sta wi r) ⟨fun σ G' H' τ n' A' _ q => kR _ _ n' G' H' A'.gr A'.wi rv_none q, fun v x n' G' H' g w' r' q => kR v x n' G' H' g w' r' q, fun _ _ _ _ _ _ _ q => q.elim, fun _ _ _ _ _ _ _ q => q.elim, fun _ _ _ _ _ _ _ _ _ _ q => q.elim⟩
theorem fd_aspF {x qual : Str} {ar : Arguments} {body : List Stmt} {sc : Scope} {f : Addr} {fd : FuncData} {N ps : List Str} {k : Nat} {asp : ASpF} (F : FunD K x qual ar body sc [] [] f fd) (S : FnScope N ps sc) (len : ∀ xs n R, asp xs n R → xs.length = ps.length)
    (hb : ∀ cd A outer s H E G xs n R, asp xs n R → Bd (cnOf P w K mg base N qual sc f cd A outer s H E W G fun _ _ => False) k → fd.code = cd →
      SXs (cnOf P w K mg base N qual sc f cd A outer s H E W G fun _ _ => False) (startS N xs) n body { nx := fun _ _ => False, rt := fun _ _ => False, rf := R }) :
    FnOk P w K mg base (CX P w) (k + 1) f fd ps (spOfF { W with K := K } asp) := by
  obtain ⟨oc, od, dV, kV, doc, pm, an, cdv, ct, osl, rfl, lk, hcd, _, _⟩ := F.ex
  refine fn_of lk hcd S (fun vs H Q E ⟨G, xs, n, R, _, _, r, h, _⟩ => by rw [r.len]; exact len xs n R h) (fun A outer s H vs Q E hr ⟨G, xs, n, R, sta, wi, r, h, kR⟩ => ?_)
  refine ⟨RSs (cxOf (CX P w) P w K mg base N qual sc f cdv A outer s H E) body, pss_rs, ?_⟩
  refine hb cdv A outer s H E G xs n R h (bd_of S hr fun _ _ _ _ _ _ z => z.elim) rfl (L2.start N vs) G H _ (start_as (ps := ps) sta wi r) ⟨fun σ G' H' τ n' A' _ q => q.elim, fun v x n' G' H' g w' r' q => q.elim, fun _ _ _ _ _ _ _ q => q.elim, fun _ _ _ _ _ _ _ q => q.elim, fun p us ds n' G' H' g w' hp d q => kR p us ds n' G' H' g w' hp d q⟩
def FnGF (P : Program) (w : World) (K : PySem.W.Frag) (mg : Str → Option Value) (base : Heap) (W : Wo) (z : Str) (k : Nat) (asp : ASpF) : Prop :=
  ∃ f fd ps, FnOk P w K mg base (CX P w) k f fd ps (spOfF { W with K := K } asp) ∧ mg z = some (.ref f) ∧ PySem.W.keepIn K (.ref f) = true ∧ Binds K fd ps []
end
section
variable {C : Cn} {τ : List Sl} {n : Nat} {e a b c : Expr} {es : List Expr} {pos : Pos} {QF : List PyData → List Sl → Nat → Prop}
theorem ef_call {z : Str} {j k : Nat} {asp : ASpF} {p : Pos} (F : FnGF C.X.prog C.X.w C.X.K C.X.mg C.X.base C.W z k asp) (hr : Room j C.X.A) (hj : k ≤ j) (tk : Takes C.X C.CW) (hg : Gl C.X z)
    (h : EA C τ n (e :: es) fun xs τ1 n1 => asp xs n1 (fun ds n2 => QF ds τ1 n2)) (hdb : (z == ("__debug__" : Str)) = false := by decide)
    (he : starEach (e :: es) C.X.env = (false, eval e C.X.env) :: starEach es C.X.env := by rfl) (hpl : (backTo pos (starEach es C.X.env)).any (·.1) = false := by rfl) :
    EF C τ n (.Call (.Name z p) (e :: es) [] pos) QF := by
  obtain ⟨f, fd, ps, F, hm, hk, hb⟩ := F
  intro pv σ G H R A kk
  refine re_of (pe_callS (E := WE C.CW) F (hr.mono hj) hg hm hk hb (fun σ => passAt tk σ) pa_ra hdb he hpl) ?_
  refine h pv σ G H _ A fun vs xs G1 H1 τ1 n1 A1 e1 r1 q => ?_
  refine ⟨G1, xs, n1, fun ds n2 => QF ds τ1 n2, A1.sta, A1.wi, r1, q, fun p us ds n' G' H' g w' hp d q' => ?_⟩
  exact kk p us ds G' H' τ1 n' (A1.grow g w') (e1.trans g.ex) hp d q'
end
end M

set_option Elab.async false
set_option linter.all false
set_option maxRecDepth 100000
set_option maxHeartbeats 4000000
namespace M
open PySem PySem.Spec PyProof.Rows L2
/-- a def that may be called here -/
def Cl (C : Cn) (z : Str) (asp : ASp) : Prop := ∃ j k, FnG C.X.prog C.X.w C.X.K C.X.mg C.X.base C.W z k asp ∧ Room j C.X.A ∧ k ≤ j ∧ Gl C.X z ∧ (z == ("__debug__" : Str)) = false
def ClF (C : Cn) (z : Str) (asp : ASpF) : Prop := ∃ j k, FnGF C.X.prog C.X.w C.X.K C.X.mg C.X.base C.W z k asp ∧ Room j C.X.A ∧ k ≤ j ∧ Gl C.X z ∧ (z == ("__debug__" : Str)) = false
section
variable {C : Cn} {τ : List Sl} {n : Nat} {e a b c : Expr} {es : List Expr} {pos : Pos} {Q : Av → List Sl → Nat → Prop} {QT : Bool → List Sl → Nat → Prop} {D : AE} {QF : List PyData → List Sl → Nat → Prop}
theorem ex_cl {z : Str} {asp : ASp} {p : Pos} (F : Cl C z asp) (tk : Takes C.X C.CW) (h : EA C τ n (e :: es) fun xs τ1 n1 => asp xs n1 (fun x n2 => Q x τ1 n2) (fun c n2 => C.E c τ1 n2))
    (he : starEach (e :: es) C.X.env = (false, eval e C.X.env) :: starEach es C.X.env) (hpl : (backTo pos (starEach es C.X.env)).any (·.1) = false) : EX C τ n (.Call (.Name z p) (e :: es) [] pos) Q := by
  obtain ⟨j, k, F, hr, hj, hg, hd⟩ := F
  exact ex_call F hr hj tk hg h hd he hpl
theorem ef_cl {z : Str} {asp : ASpF} {p : Pos} (F : ClF C z asp) (tk : Takes C.X C.CW) (h : EA C τ n (e :: es) fun xs τ1 n1 => asp xs n1 (fun ds n2 => QF ds τ1 n2))
    (he : starEach (e :: es) C.X.env = (false, eval e C.X.env) :: starEach es C.X.env) (hpl : (backTo pos (starEach es C.X.env)).any (·.1) = false) : EF C τ n (.Call (.Name z p) (e :: es) [] pos) QF := by
  obtain ⟨j, k, F, hr, hj, hg, hd⟩ := F
  exact ef_call F hr hj tk hg h hd he hpl
theorem sx_asgE {i : Nat} {z : Str} {p : Pos} (nd : C.X.N.Nodup) (hz : Lm C.X i z) (h : EX C τ n e fun x τ1 n1 => D.nx (τ1.set i (.st x)) n1) (hs : swapsWith e (some (.Name z p)) pos.line C.X.env = pure false) : SX C τ n (.Assign [.Name z p] e pos) D := sx_asg (ok := nd) hz h hs
theorem sx_ownE {i : Nat} {z : Str} {p : Pos} (nd : C.X.N.Nodup) (hz : Lm C.X i z) (h : EF C τ n e fun ds τ1 n1 => D.nx (τ1.set i (.ow ds)) n1) (hs : swapsWith e (some (.Name z p)) pos.line C.X.env = pure false) : SX C τ n (.Assign [.Name z p] e pos) D := sx_own (ok := nd) hz h hs
theorem sx_exprE (h : EX C τ n e fun x τ1 n1 => D.nx τ1 n1) (hs : swapsWith e none pos.line C.X.env = pure false) : SX C τ n (.Expr e pos) D := sx_expr h hs
theorem ex_globI {x : Str} {i : Int} (g : Gl C.X x ∧ (∃ t, C.X.mg x = some (.int i t)) ∧ (x == ("__debug__" : Str)) = false) (q : Q (aI i) τ n) : EX C τ n (.Name x pos) Q := by
  obtain ⟨h1, ⟨t, h2⟩, h3⟩ := g
  exact ex_glob h1 h2 h3 q
theorem et_wB {op : BoolOp} (h : EW C τ n (.BoolOp op es pos) QT) : ET C τ n (.BoolOp op es pos) QT := et_w h
theorem et_valC {ks : List Keyword} (h : EX C τ n (.Call a es ks pos) (QB QT)) : ET C τ n (.Call a es ks pos) QT := et_val h
theorem nofree {l : List (Str × NameKind)} {y : Str × NameKind} (h : (l.all fun y => y.2 != .free) = true) (hy : y ∈ l) (e : y.2 = .free) : False := by
  have := List.all_eq_true.mp h y hy
  rw [e] at this
  exact absurd this (by decide)
theorem nm_gen {s : Shared} {H : Hp} {scope : Scope} {cE : Addr} {cl : List (Str × Addr)} {code : Value} {fp : List Addr} {pn : List (Addr × Obj)} {Aw : Around} {x : Str} {i : Nat} (h : C.X.N[i]? = some x) (hv : Vis scope x) (hd : (x == ("__debug__" : Str)) = false) (hc : (x == ("__classdict__" : Str)) = false) :
    Nm (C.gen s H scope cE cl code fp pn Aw).X i x := ⟨h, hv, hd, hc⟩
theorem canL_ints : ∀ ns : List Int, PyData.canLayAll0 (dints ns) = true
  | [] => by simp [PyData.canLayAll0]
  | n :: r => by
    have := canL_ints r
    simp only [List.map_cons, PyData.canLayAll0, PyData.canLay0, Bool.true_and]
    exact this
theorem dep_ints : ∀ ns : List Int, PyData.depthAll (dints ns) = 0
  | [] => by simp [PyData.depthAll]
  | n :: r => by
    have := dep_ints r
    simp only [List.map_cons, PyData.depthAll, PyData.depth]
    rw [this]; rfl
theorem shaped_dL (ns : List Int) : SeqAt.shaped (dL ns) = true := by
  unfold SeqAt.shaped
  have h1 : PyData.canLay0 (dL ns) = true := by simp only [PyData.canLay0]; exact canL_ints ns
  have h2 : PyData.depth (dL ns) = 1 := by simp only [PyData.depth]; rw [dep_ints]
  rw [h1, h2]; rfl
theorem eqv_dL (ns ms : List Int) : PyData.eqv (dL ns) (dL ms) = decide (ns = ms) := by
  simp only [PyData.eqv]
  exact PySem.W.ked_eqvAll ns ms
theorem peq_l {ns ms : List Int} (h : Q (aB (decide (ns = ms))) τ n) : PEq Q (aL ns) (aL ms) τ n := .inr ⟨_, _, rfl, rfl, shaped_dL _, shaped_dL _, by rw [eqv_dL]; exact h⟩
theorem pne_l {ns ms : List Int} (h : Q (aB (!decide (ns = ms))) τ n) : PNe Q (aL ns) (aL ms) τ n := .inr ⟨_, _, rfl, rfl, shaped_dL _, shaped_dL _, by rw [eqv_dL]; exact h⟩
theorem perm_sorted {as bs ns ms : List Int} (h : ns.Perm ms) (a1 : as.Perm ns) (a2 : as.Pairwise (· ≤ ·)) (b1 : bs.Perm ms) (b2 : bs.Pairwise (· ≤ ·)) : as = bs :=
  List.Perm.eq_of_pairwise (fun _ _ _ _ a b => Int.le_antisymm a b) a2 b2 ((a1.trans h).trans b1.symm)
theorem set0 {α : Type} (a b : α) (l : List α) : (a :: l).set 0 b = b :: l := rfl
theorem set1 {α : Type} (a b : α) (l : List α) (i : Nat) : (a :: l).set (i + 1) b = a :: l.set i b := rfl
end
end M

set_option Elab.async false
set_option linter.all false
set_option maxRecDepth 100000
set_option maxHeartbeats 4000000
namespace M
open PySem PySem.Spec PyProof.Rows L2
/-! ### the purse -/
section
variable {W : Wo} {G0 H0 : Hp} {pv : Pv} {σ : L2.St} {G H : Hp} {τ : List Sl} {n : Nat}
/-- an object of the purse is written -/
theorem As.purse (A : As W G0 H0 pv σ G H τ n) {a : Addr} {o : HO} {m : Nat} (u : W.U a) (w : WI W m (upd H a o)) : As W G0 H0 pv σ G (upd H a o) τ m := by
  have ne : ∀ b, ¬ W.U b → upd H a o b = H b := fun b hb => upd_ne fun z => hb (z ▸ u)
  refine ⟨⟨A.gr.ex, fun b q e => ?_, fun b q ub e => by rw [ne b ub]; exact A.gr.fr b q ub e, A.gr.nw⟩, w, A.len, A.st, fun i ds e => ?_, A.sep, fun p hp => ?_⟩
  · obtain ⟨h1, h2⟩ := A.gr.sta b q e
    exact ⟨h1, by rw [ne b h1]; exact h2⟩
  · obtain ⟨b, xs, e1, e2, r, e3, ub, e4⟩ := A.ow i ds e
    exact ⟨b, xs, e1, by rw [ne b ub]; exact e2, r, e3, ub, e4⟩
  · obtain ⟨z1, z2, z3, z4, z5⟩ := A.pr p hp
    exact ⟨by rw [ne _ z3]; exact z1, z2, z3, z4, z5⟩
theorem tab_ne {H : Hp} {p a : Addr} {xs : List V} (h : GxR.TabG H p) (e : H a = some (.lst xs)) : p ≠ a := fun z => by
  obtain ⟨ps, q, _⟩ := h
  rw [z, e] at q; cases q
theorem ints_inj : ∀ {as bs : List Int}, as.map V.int = bs.map V.int → as = bs
  | [], [], _ => rfl
  | [], _ :: _, h => by simp at h
  | _ :: _, [], h => by simp at h
  | a :: as, b :: bs, h => by
    simp only [List.map_cons, List.cons.injEq] at h
    obtain ⟨h1, h2⟩ := h
    injection h1 with h1
    rw [h1, ints_inj h2]
theorem wi_turn (w : WI W n H) {p : Addr × Addr} (hp : W.pu = some p) {m : Nat} (hm : m ≤ n + 1) : WI W (n + 1) (upd H p.1 (.lst [.ref p.2, .int (m : Int)])) := by
  obtain ⟨ne, cells, t, e1, e2, c1, c2, c3, c4⟩ := w.2 p hp
  refine ⟨fun q hq => ?_, fun q hq => ?_⟩
  · obtain ⟨ps, e, t⟩ := w.1 q hq
    exact ⟨ps, by rw [upd_ne (tab_ne (w.1 q hq) e1)]; exact e, t⟩
  · rw [hp] at hq; cases hq
    exact ⟨ne, cells, m, upd_same, by rw [upd_ne ne.symm]; exact e2, c1, c2, c3, hm⟩
theorem wi_cell (w : WI W n H) {p : Addr × Addr} (hp : W.pu = some p) {cells : List Int} (e2 : H p.2 = some (.lst (cells.map V.int))) {i : Nat} {v : Int} (hv : v.natAbs < 2 ^ 4000) : WI W n (upd H p.2 (.lst ((cells.map V.int).set i (.int v)))) := by
  obtain ⟨ne, cells', t, e1, e2', c1, c2, c3, c4⟩ := w.2 p hp
  rw [e2] at e2'
  have ec : cells = cells' := by
    have : cells.map V.int = cells'.map V.int := by injection e2' with z; injection z
    exact ints_inj this
  subst ec
  refine ⟨fun q hq => ?_, fun q hq => ?_⟩
  · obtain ⟨ps, e, t⟩ := w.1 q hq
    exact ⟨ps, by rw [upd_ne (tab_ne (w.1 q hq) e2)]; exact e, t⟩
  · rw [hp] at hq; cases hq
    refine ⟨ne, cells.set i v, t, by rw [upd_ne ne]; exact e1, by rw [upd_same, List.map_set], by rw [List.length_set]; exact c1, by rw [List.length_set]; exact c2, fun c hc => ?_, c4⟩
    rcases List.mem_or_eq_of_mem_set hc with z | z
    · exact c3 c z
    · rw [z]; exact hv
end
section
variable {C : Cn} {τ : List Sl} {n : Nat} {e a b c : Expr} {es : List Expr} {pos : Pos} {Q : Av → List Sl → Nat → Prop} {D : AE}
/-- cells, turn = purse -/
theorem sx_unpack {i j : Nat} {z y w : Str} {p p2 p3 p4 : Pos} {kk l : Nat} (hc : C.X.calm = true) (nd : C.X.N.Nodup) (hw : Nm C.X l w) (ht : τ[l]? = some (.st .pu)) (hz : Lm C.X i z) (hy : Lm C.X j y)
    (h : ∀ t : Nat, t ≤ n → D.nx ((τ.set i (.st .pc)).set j (.st (aI t))) n)
    (hs : (assignEach [.Name z p, .Name y p2] C.X.env).map (·.2) = assign (.Name z p) C.X.env :: (assignEach [.Name y p2] C.X.env).map (·.2) := by rfl)
    (hs2 : (assignEach [.Name y p2] C.X.env).map (·.2) = assign (.Name y p2) C.X.env :: (assignEach [] C.X.env).map (·.2) := by rfl)
    (hn : (assignEach [.Name z p, .Name y p2] C.X.env).length = 2 := by rfl) (hst : (assignEach [.Name z p, .Name y p2] C.X.env).findIdx? (·.1) = none := by rfl)
    (h1 : swapsWithSole [.Tuple [.Name z p, .Name y p2] kk p3] (.Name w p4) pos.line C.X.env = pure false := by rfl) (h2 : swappedStores [.Tuple [.Name z p, .Name y p2] kk p3] (.Name w p4) C.X.env = pure none := by rfl)
    (h3 : (assignEach [.Tuple [.Name z p, .Name y p2] kk p3] C.X.env).map (·.2) = [assign (.Tuple [.Name z p, .Name y p2] kk p3) C.X.env] := by rfl) :
    SX C τ n (.Assign [.Tuple [.Name z p, .Name y p2] kk p3] (.Name w p4) pos) D := by
  intro σ G H Dc A k
  refine rs_of (ps_asg (pe_var hw.hN hw.hv hw.hd hw.hc) (pg_lst (n := 2) hc (pgs_cons (pg_name nd hz.hN hz.hl hz.hf) (pgs_cons (pg_name nd hy.hN hy.hl hy.hf) pgs_nil hs2) hs) hn hst) h1 h2 h3) ?_
  obtain ⟨v, e1, q, hq, rfl⟩ := A.st l _ ht
  obtain ⟨ne, cells, t, f1, f2, c1, c2, c3, c4⟩ := A.wi.2 q hq
  refine ⟨_, e1, q.1, _, rfl, SqL.of f1, rfl, V.ref q.2, _, rfl, V.int t, _, rfl, rfl, ?_⟩
  exact k.nx _ G H _ n ((A.put i (x := .pc) ⟨q, hq, rfl⟩).put j (x := aI t) (rv_int _)) (Ex.refl _) (h t c4)
theorem ex_lenPc {p : Pos} (hz : Bl C.X "len") (h : EA C τ n (e :: es) fun xs τ1 n1 => xs = [.pc] ∧ Q (aI C.W.L) τ1 n1)
    (he : starEach (e :: es) C.X.env = (false, eval e C.X.env) :: starEach es C.X.env := by rfl) (hpl : (backTo pos (starEach es C.X.env)).any (·.1) = false := by rfl) : EX C τ n (.Call (.Name "len" p) (e :: es) [] pos) Q := by
  intro pv σ G H R A k
  refine re_of (pe_callB (id := "len") call_len_seq hz.hg hz.hm boot_len1 pa_ra (by decide) (by decide) he hpl) ?_
  refine h pv σ G H _ A fun vs xs G1 H1 τ1 n1 A1 e1 r1 ⟨ex, q⟩ => ?_
  subst ex
  obtain ⟨v, rfl, p, hp, rfl⟩ := rvAll1 r1
  obtain ⟨ne, cells, t, f1, f2, c1, c2, c3, c4⟩ := A1.wi.2 p hp
  refine ⟨p.2, _, rfl, .inl (SqL.of f2), ?_⟩
  rw [List.length_map, c1]
  exact k _ _ G1 H1 τ1 n1 A1 e1 (rv_int _) q
theorem ex_nameO {i : Nat} {x : Str} {ds : List PyData} (h : Nm C.X i x) (ht : τ[i]? = some (.ow ds)) (q : Q (.d (.list ds)) (τ.set i (.st (.d (.list ds)))) n) : EX C τ n (.Name x pos) Q := by
  intro pv σ G H R A k
  refine re_of (pe_var h.hN h.hv h.hd h.hc) ?_
  obtain ⟨a, xs, e1, e2, r2, e3, u, e4⟩ := A.ow i ds ht
  obtain ⟨G', eg, A'⟩ := A.freeze ht
  obtain ⟨v, f1, r⟩ := A'.st i (.d (.list ds)) (by rw [List.getElem?_set_self (List.getElem?_eq_some_iff.mp ht).1])
  exact ⟨v, f1, k v _ G' H _ n A' eg r q⟩
theorem sx_exprN {z : Str} {p cp : Pos} {ks : List Keyword} (h : EX C τ n (.Call (.Name z p) es ks cp) fun x τ1 n1 => D.nx τ1 n1) (hs : swapsWith (.Call (.Name z p) es ks cp) none pos.line C.X.env = pure false) : SX C τ n (.Expr (.Call (.Name z p) es ks cp) pos) D := sx_expr h hs
theorem ex_lenPcN {i : Nat} {z : Str} {p p2 : Pos} (hl : Bl C.X "len") (hz : Nm C.X i z) (ht : τ[i]? = some (.st .pc)) (q : Q (aI C.W.L) τ n)
    (he : starEach [Expr.Name z p2] C.X.env = (false, eval (Expr.Name z p2) C.X.env) :: starEach [] C.X.env) : EX C τ n (.Call (.Name "len" p) [.Name z p2] [] pos) Q :=
  ex_lenPc hl (ea_cons (ex_name hz ht (ea_nil ⟨rfl, q⟩)) he) he rfl
theorem ex_ixPc (hs : PlainIx b) (h : EX C τ n a fun x τ1 n1 => EX C τ1 n1 b fun y τ2 n2 => x = .pc ∧ ∃ j : Nat, y = aI j ∧ j < C.W.L ∧ ∀ v : Int, v.natAbs < 2 ^ 4000 → Q (aI v) τ2 n2) : EX C τ n (.Subscript a b pos) Q := by
  intro pv σ G H R A k
  refine re_of (pe_ix ix_list pe_re pe_re hs) ?_
  refine h pv σ G H _ A fun v x G1 H1 τ1 n1 A1 e1 r1 h1 => ?_
  refine h1 pv σ G1 H1 _ A1 fun u y G2 H2 τ2 n2 A2 e2 r2 ⟨ex, j, ey, hj, q⟩ => ?_
  subst ex ey
  obtain ⟨p, hp, rfl⟩ := r1
  obtain ⟨ne, cells, t, f1, f2, c1, c2, c3, c4⟩ := A2.wi.2 p hp
  have hj' : j < cells.length := by rw [c1]; exact hj
  rw [r2.int]
  refine ⟨p.2, _, j, .int cells[j], rfl, rfl, SqL.of f2, at_of (j := j) rfl (by rw [List.getElem?_map, List.getElem?_eq_getElem hj']; rfl), ?_⟩
  exact k _ _ G2 H2 τ2 n2 A2 (e1.trans e2) (rv_int _) (q _ (c3 _ (List.getElem_mem hj')))
/-- purse[1] = e -/
theorem sx_setPu {l : Nat} {z : Str} {p p2 p3 : Pos} {jj : Nat} (hz : Nm C.X l z)
    (h : EX C τ n e fun y τ1 n1 => ∃ m : Nat, y = aI m ∧ m ≤ n1 + 1 ∧ τ1[l]? = some (.st .pu) ∧ D.nx τ1 (n1 + 1))
    (hs : swapsWithSole [.Subscript (.Name z p) (.Constant (.int 1) jj p3) p2] e pos.line C.X.env = pure false := by rfl) (hw : swappedStores [.Subscript (.Name z p) (.Constant (.int 1) jj p3) p2] e C.X.env = pure none := by rfl)
    (h1 : (assignEach [.Subscript (.Name z p) (.Constant (.int 1) jj p3) p2] C.X.env).map (·.2) = [assign (.Subscript (.Name z p) (.Constant (.int 1) jj p3) p2) C.X.env] := by rfl)
    (ha : ∀ v, assign (.Subscript (.Name z p) (.Constant (.int 1) jj p3) p2) C.X.env v = (do
      let ov ← holding [v] (eval (.Name z p) C.X.env)
      let iv ← holding [v, ov] (eval (.Constant (.int 1) jj p3) C.X.env)
      standAt p2
      holding [v, ov, iv] (setItem ov iv v)
      release [v, ov, iv] []) := by intro _; rfl) : SX C τ n (.Assign [.Subscript (.Name z p) (.Constant (.int 1) jj p3) p2] e pos) D := by
  intro σ G H Dc A k
  refine rs_of (ps_asg pe_re (pg_sub (pe_var hz.hN hz.hv hz.hd hz.hc) pe_int set_list (ha := ha)) hs hw h1) ?_
  refine h [] σ G H _ A fun u y G1 H1 τ1 n1 A1 e3 r1 ⟨m, ey, hm, ht, qq⟩ => ?_
  subst ey
  obtain ⟨v, e1, q, hq, rfl⟩ := A1.st l _ ht
  obtain ⟨ne, cells, t, f1, f2, c1, c2, c3, c4⟩ := A1.wi.2 q hq
  rw [r1.int]
  refine ⟨_, e1, q.1, _, 1, 1, rfl, rfl, f1, rfl, ?_⟩
  exact k.nx _ G1 _ _ (n1 + 1) (A1.purse (.inr ⟨q, hq, .inl rfl⟩) (wi_turn A1.wi hq hm)) e3 qq
/-- cells[i] = e -/
theorem sx_setPc {l : Nat} {z : Str} {p p2 : Pos} {idx : Expr} (hz : Nm C.X l z)
    (h : EX C τ n e fun y τ1 n1 => ∃ v : Int, y = aI v ∧ v.natAbs < 2 ^ 4000 ∧ τ1[l]? = some (.st .pc) ∧ EX C τ1 n1 idx fun k τ2 n2 => ∃ j : Nat, k = aI j ∧ j < C.W.L ∧ D.nx τ2 n2)
    (hs : swapsWithSole [.Subscript (.Name z p) idx p2] e pos.line C.X.env = pure false := by rfl) (hw : swappedStores [.Subscript (.Name z p) idx p2] e C.X.env = pure none := by rfl)
    (h1 : (assignEach [.Subscript (.Name z p) idx p2] C.X.env).map (·.2) = [assign (.Subscript (.Name z p) idx p2) C.X.env] := by rfl)
    (ha : ∀ v, assign (.Subscript (.Name z p) idx p2) C.X.env v = (do
      let ov ← holding [v] (eval (.Name z p) C.X.env)
      let iv ← holding [v, ov] (eval idx C.X.env)
      standAt p2
      holding [v, ov, iv] (setItem ov iv v)
      release [v, ov, iv] []) := by intro _; rfl) : SX C τ n (.Assign [.Subscript (.Name z p) idx p2] e pos) D := by
  intro σ G H Dc A k
  refine rs_of (ps_asg pe_re (pg_sub (pe_var hz.hN hz.hv hz.hd hz.hc) pe_re set_list (ha := ha)) hs hw h1) ?_
  refine h [] σ G H _ A fun u y G1 H1 τ1 n1 A1 e3 r1 ⟨v, ey, hv, ht, h2⟩ => ?_
  subst ey
  obtain ⟨v0, e1, q, hq, rfl⟩ := A1.st l _ ht
  refine ⟨_, e1, ?_⟩
  refine h2 [] σ G1 H1 _ A1 fun u2 kx G2 H2 τ2 n2 A2 e4 r2 ⟨j, ek, hj, qq⟩ => ?_
  subst ek
  obtain ⟨ne, cells, t, f1, f2, c1, c2, c3, c4⟩ := A2.wi.2 q hq
  rw [r1.int, r2.int]
  have hj' : j < (cells.map V.int).length := by rw [List.length_map, c1]; exact hj
  refine ⟨q.2, _, j, j, rfl, rfl, f2, ?_, ?_⟩
  · unfold ixN
    rw [if_pos (Int.natCast_nonneg j), if_pos (by exact_mod_cast hj')]
    rfl
  · exact k.nx _ G2 _ _ n2 (A2.purse (.inr ⟨q, hq, .inr rfl⟩) (wi_cell A2.wi hq f2 hv)) (e3.trans e4) qq
end
end M

set_option Elab.async false
set_option linter.all false
set_option maxRecDepth 100000
set_option maxHeartbeats 4000000
namespace M
open PySem PySem.Spec PyProof.Rows L2
theorem dints_app (a b : List Int) : dints (a ++ b) = dints a ++ dints b := List.map_append
theorem dints_erase : ∀ (a : List Int) (i : Nat), dints (a.eraseIdx i) = (dints a).eraseIdx i
  | [], _ => rfl
  | _ :: _, 0 => rfl
  | x :: r, i + 1 => by
    show PyData.int x :: dints (r.eraseIdx i) = PyData.int x :: (dints r).eraseIdx i
    rw [dints_erase r i]
theorem perm_erase : ∀ (l : List Int) (i : Nat) (h : i < l.length), (l[i] :: l.eraseIdx i).Perm l
  | x :: r, 0, _ => List.Perm.refl _
  | x :: r, i + 1, h => by
    show (r[i]'(by simpa using h) :: x :: r.eraseIdx i).Perm (x :: r)
    exact (List.Perm.swap _ _ _).trans ((perm_erase r i (by simpa using h)).cons x)
theorem len_d (ns : List Int) : ((dints ns).length : Int) = ns.length := by simp
theorem get_d {ns : List Int} {i : Nat} {x : Int} (h : ns[i]? = some x) : (dints ns)[i]? = some (.int x) := by
  rw [List.getElem?_map, h]; rfl
theorem atI_nat {α : Type} {xs : List α} {i : Nat} {x : α} (h : xs[i]? = some x) : atI xs (i : Int) = some x := by
  unfold atI ixN
  have hl := (List.getElem?_eq_some_iff.mp h).1
  rw [if_pos (Int.natCast_nonneg i), if_pos (by exact_mod_cast hl)]
  exact h
theorem at_d {ns : List Int} {i : Nat} {j : Int} {x : Int} (e : j = (i : Int)) (h : ns[i]? = some x) : atI (dints ns) j = some (.int x) := by rw [e]; exact atI_nat (get_d h)
/-- the places -/
def plc (ns : List Int) : List (Int × Int) := ns.zipIdx.map fun p => (p.1, (p.2 : Int))
theorem plc_len (ns : List Int) : (plc ns).length = ns.length := by simp [plc]
theorem plc_get {ns : List Int} {i : Nat} {x : Int} (h : ns[i]? = some x) : (plc ns)[i]? = some (x, (i : Int)) := by
  unfold plc
  rw [List.getElem?_map, List.getElem?_zipIdx, h]
  simp
theorem plc_fst (ns : List Int) : (plc ns).map (·.1) = ns := by
  unfold plc
  rw [List.map_map]
  have : ((fun x : Int × Int => x.1) ∘ fun p : Int × Nat => (p.1, (p.2 : Int))) = Prod.fst := rfl
  rw [this, List.zipIdx_map_fst]
theorem look_nd : ∀ {l : List (Int × Int)} {i : Nat} {k v : Int}, (l.map (·.1)).Nodup → l[i]? = some (k, v) → l.lookup k = some v
  | [], i, k, v, _, h => by simp at h
  | (a, b) :: r, 0, k, v, _, h => by
    simp at h
    obtain ⟨rfl, rfl⟩ := h
    simp [List.lookup]
  | (a, b) :: r, i + 1, k, v, nd, h => by
    have nd' : (a :: r.map (·.1)).Nodup := nd
    obtain ⟨h1, h2⟩ := List.nodup_cons.mp nd'
    have h : r[i]? = some (k, v) := by simpa using h
    have hk : k ∈ r.map (·.1) := List.mem_map.mpr ⟨(k, v), List.mem_of_getElem? h, rfl⟩
    have ne : (k == a) = false := by
      rw [beq_eq_false_iff_ne]
      intro z
      exact h1 (z ▸ hk)
    rw [List.lookup_cons, ne]
    exact look_nd h2 h
theorem plc_look {ns : List Int} (nd : ns.Nodup) {i : Nat} {x : Int} (h : ns[i]? = some x) : (plc ns).lookup x = some (i : Int) := look_nd (by rw [plc_fst]; exact nd) (plc_get h)
section
variable {C : Cn} {τ : List Sl} {n : Nat} {e a b c : Expr} {es : List Expr} {pos : Pos} {Q : Av → List Sl → Nat → Prop} {QT : Bool → List Sl → Nat → Prop} {D : AE}
theorem nm_blk {s : Shared} {H : Hp} {scope : Scope} {cE : Addr} {cl : List (Str × Addr)} {fp : List Addr} {x : Str} {i : Nat} (h : C.X.N[i]? = some x) (hv : Vis (relS scope C.X.env.scope) x) (hd : (x == ("__debug__" : Str)) = false) (hc : (x == ("__classdict__" : Str)) = false) :
    Nm (C.blk s H scope cE cl fp).X i x := ⟨h, hv, hd, hc⟩
theorem eo_none {QO : Option Int → List Sl → Nat → Prop} (h : QO none τ n) : EO C τ n none QO := h
theorem eo_some {QO : Option Int → List Sl → Nat → Prop} (h : EX C τ n e fun x τ1 n1 => ∃ i, x = aI i ∧ QO (some i) τ1 n1) : EO C τ n (some e) QO := h
theorem cut_tail (ns : List Int) : cutD (dints ns) (some 1) none = dints ns.tail := by
  have e : HT.sIx (dints ns).length 0 (some 1) = min 1 (dints ns).length := HT.sIx_nat _ _ 1
  unfold cutD
  rw [e, HT.sIx_none]
  cases ns with
  | nil => rfl
  | cons a r =>
    have e2 : min 1 (dints (a :: r)).length = 1 := by simp
    rw [e2]
    show List.take ((dints (a :: r)).length - 1) (dints r) = dints r
    rw [List.take_of_length_le (by simp)]
theorem sx_augE {op : Operator} {f : Int → Int → Int} {i : Nat} {z : Str} {p : Pos} (hop : PIp C.X op (ipI f)) (nd : C.X.N.Nodup) (hz : Lm C.X i z) {j : Int} (ht : τ[i]? = some (.st (aI j)))
    (h : EX C τ n e fun y τ1 n1 => ∃ m, y = aI m ∧ D.nx (τ1.set i (.st (aI (f j m)))) n1) : SX C τ n (.AugAssign (.Name z p) op e pos) D := sx_aug (ok := nd) hop hz ht h
theorem pne_same {ns : List Int} (h : Q (aB (!true)) τ n) : PNe Q (aL ns) (aL ns) τ n := pne_l (by rw [decide_eq_true rfl]; exact h)
theorem peq_same {ns : List Int} (h : Q (aB true) τ n) : PEq Q (aL ns) (aL ns) τ n := peq_l (by rw [decide_eq_true rfl]; exact h)
theorem pne_sameI {i : Int} (h : Q (aB (!true)) τ n) : PNe Q (aI i) (aI i) τ n := .inl ⟨i, i, rfl, rfl, by rw [decide_eq_true rfl]; exact h⟩
theorem peq_sameI {i : Int} (h : Q (aB true) τ n) : PEq Q (aI i) (aI i) τ n := .inl ⟨i, i, rfl, rfl, by rw [decide_eq_true rfl]; exact h⟩
theorem peq_nil {ns : List Int} (h : Q (aB (decide (ns = []))) τ n) : PEq Q (aL ns) (.d (.list [])) τ n := peq_l (ms := []) h
theorem pne_nil {ns : List Int} (h : Q (aB (!decide (ns = []))) τ n) : PNe Q (aL ns) (.d (.list [])) τ n := pne_l (ms := []) h
theorem pne_b {x y : Bool} (h : Q (aB (x != y)) τ n) : PNe Q (aB x) (aB y) τ n := by
  refine .inr ⟨_, _, rfl, rfl, ?_, ?_, ?_⟩
  · cases x <;> rfl
  · cases y <;> rfl
  · have e : (!PyData.eqv (.bool x) (.bool y)) = (x != y) := by cases x <;> cases y <;> simp [PyData.eqv]
    rw [e]; exact h
theorem rss_step {st : Stmt} {rest : List Stmt} {Dc : Ends} {σ : L2.St} {G H : Hp} {P : List Sl → Nat → Prop} (A : C.As [] σ G H τ n) (h : SX C τ n st { nx := P, rt := fun _ _ => False }) (k : ∀ σ' G' H' τ' n', C.As [] σ' G' H' τ' n' → Ex G G' → P τ' n' → RSs C.X rest Dc σ' H') :
    RSs C.X (st :: rest) Dc σ H := by
  refine rss_of (pss_cons ps_rs pss_rs) ?_
  exact h σ G H { Dc with nx := fun σ' H' => RSs C.X rest Dc σ' H' } A ⟨fun σ' G' H' τ' n' A' e' q => k σ' G' H' τ' n' A' e' q, fun _ _ _ _ _ _ _ _ q => q.elim, fun _ _ _ _ _ _ _ q => q.elim, fun _ _ _ _ _ _ _ q => q.elim, fun _ _ _ _ _ _ _ _ _ _ q => q.elim⟩
theorem et_intB {op : Operator} (h : EX C τ n (.BinOp a op b pos) fun x τ1 n1 => ∃ i, x = aI i ∧ QT (i != 0) τ1 n1) : ET C τ n (.BinOp a op b pos) QT := by
  intro pv σ G H R A k
  refine rt_of (pt_truth pe_re (by intro _; rfl)) ?_
  refine h pv σ G H _ A fun v x G1 H1 τ1 n1 A1 e1 r1 ⟨i, ex, q⟩ => ?_
  subst ex
  rw [r1.int]
  exact ⟨i != 0, rfl, k _ G1 H1 τ1 n1 A1 e1 q⟩
end
end M

set_option Elab.async false
set_option linter.all false
set_option maxRecDepth 100000
set_option maxHeartbeats 4000000
namespace CB
open PySem PySem.Spec PyProof.Rows L2
theorem slot_next : Slot "itertools.combinations" "__next__" "itertools.combinations.__next__" :=
  .of (owner := "itertools.combinations") (n := "__next__") (by rw [typeLookup_type, builtinLookup_eq_fast]; kernel_rfl) (by decide +kernel) (by decide +kernel) (by decide +kernel)
    (by first | exact .inl (by decide +kernel) | exact .inr (by decide +kernel)) (by rw [isSubtype_type]; kernel_rfl)
theorem slot_iter : Slot "itertools.combinations" "__iter__" "itertools.combinations.__iter__" :=
  .of (owner := "itertools.combinations") (n := "__iter__") (by rw [typeLookup_type, builtinLookup_eq_fast]; kernel_rfl) (by decide +kernel) (by decide +kernel) (by decide +kernel)
    (by first | exact .inl (by decide +kernel) | exact .inr (by decide +kernel)) (by rw [isSubtype_type]; kernel_rfl)
theorem slot_init : Slot "itertools.combinations" "__init__" "object.__init__" :=
  .of (owner := "object") (n := "__init__") (by rw [typeLookup_type, builtinLookup_eq_fast]; kernel_rfl) (by decide +kernel) (by decide +kernel) (by decide +kernel)
    (by first | exact .inl (by decide +kernel) | exact .inr (by decide +kernel)) (by rw [isSubtype_type]; kernel_rfl)
theorem entry_next : entryFor table "itertools.combinations.__next__" = some Builtin.«itertools.combinations.__next__» := entryFor_of_tree (by kernel_rfl)
theorem entry_new : entryFor table "itertools.combinations.__new__" = some Builtin.«itertools.combinations.__new__» := entryFor_of_tree (by kernel_rfl)
theorem entry_iter : entryFor table "itertools.combinations.__iter__" = some Builtin.«dict_keyiterator.__iter__» :=
  entryFor_alias (id' := "dict_keyiterator.__iter__") (by kernel_rfl) (by first | rfl | decide +kernel | (unfold String.splitOn; simp +decide [String.splitOnAux])) (by decide +kernel) (by kernel_rfl)
theorem mro : mroOf (.type "itertools.combinations") = pure [.type "itertools.combinations", .type "object"] := by rw [mroOf_type]; kernel_rfl
theorem lookup_new : typeLookup (.type "itertools.combinations") "__new__" = pure (some (.builtin "itertools.combinations.__new__")) := by rw [typeLookup_type, builtinLookup_eq_fast]; kernel_rfl
theorem called : TypeCalled "itertools.combinations" "itertools.combinations.__new__" "object.__init__" :=
  ⟨by decide +kernel, by decide +kernel, ⟨_, _, mro⟩, madeBy_type mro lookup_new (by decide +kernel), by decide +kernel, by rw [isSubtype_type]; kernel_rfl, slot_init⟩
theorem typeCall_2 (a b : Value) : checkTypeCall "itertools.combinations" ⟨[a, b], []⟩ = pure () := by kernel_rfl
theorem newCall_2 (a b : Value) : checkBuiltinCall "itertools.combinations.__new__" ⟨[.type "itertools.combinations", a, b], []⟩ = pure () := by kernel_rfl
end CB

set_option Elab.async false
set_option linter.all false
set_option maxRecDepth 100000
set_option maxHeartbeats 4000000
namespace CB
open PySem PySem.Spec PyProof.Rows L2
def recO (pool : Addr) (st : Int) (last : Value) (idx : List Nat) : Obj := { cls := .type "itertools.combinations", data := .fields (([.ref pool, rawInt st, last] ++ idx.map fun (i : Nat) => rawInt i).toArray) }
theorem meets_new (l : Addr) (r : Int) (t : Tok) : Meets (Builtin.«itertools.combinations.__new__» ⟨[.type "itertools.combinations", .ref l, .int r t], []⟩) (fun A R s => ∃ o items n, s.heap.get? l = some o ∧ o.cls = .type "list" ∧ o.data = .seq items n ∧ items.size ≤ sizeLine ∧ 0 ≤ r ∧ r ≤ 2 ^ 20 ∧
    ∀ h' : Heap, (∀ b o', s.heap.get? b = some o' → h'.get? b = some o') → R (.ok (.ret (.ref (h'.objs.size + 1)))) { s with heap := (h'.push { cls := .type "tuple", data := .seq items }).push (recO h'.objs.size (if r.toNat > items.size then 2 else 0) .none (List.range r.toNat)) }) := by
  refine Meets.of_wp fun prog w A R s hs => ?_
  obtain ⟨o, items, n, h1, h2, h3, hz, r0, r1, hR⟩ := hs
  unfold Builtin.«itertools.combinations.__new__»
  refine wpAny_bind ?_
  conv => arg 3; whnf
  show wpAny _ _ (Builtin.Itertools.itSsizeArg (Value.int r t) >>= _) _ _ _
  refine wpAny_bind ?_
  unfold Builtin.Itertools.itSsizeArg
  refine wpAny_bind (m := asIndex (.int r t)) (wpAny_pure ?_)
  rw [if_neg (by simp; omega)]
  refine wpAny_pure ?_
  refine wpAny_bind (wpAny_collect_seq l (.inl rfl) h1 h2 h3 (fun h' hk => ?_) hz)
  dsimp only
  rw [if_neg (by omega)]
  have e2 : Builtin.Itertools.itTooMany r = false := by unfold Builtin.Itertools.itTooMany; simp; omega
  rw [e2, if_neg (by decide)]
  refine wpAny_bind (wpAny_newTuple ?_ (by simp; exact hz))
  refine wpAny_pure ?_
  dsimp only
  refine wpAny_bind ?_
  unfold Builtin.Itertools.itNewRecord
  rw [if_pos (show (!typeHasDict (Value.type "itertools.combinations")) = true by decide +kernel)]
  refine wpAny_newObj_type ?_ ?_
  · have := hR h' hk
    refine wpAny_pure ⟨_, rfl, ?_⟩
    have e3 : (h'.push { cls := .type "tuple", data := .seq items }).objs.size = h'.objs.size + 1 := Heap.size_push ..
    simp only [Array.toArray_toList, Array.length_toList, e3]
    unfold recO at this
    exact this
  · show _ ≤ _
    simp only [List.size_toArray, List.length_append, List.length_map, List.length_range, List.length_cons, List.length_nil]
    have : sizeLine = 16777216 := sizeLine_eq
    omega
theorem core {prog : Program} {w : World} {A : Around} {E : Value → Shared → Prop} {s : Shared} {Q : PySem.Fin → Shared → Prop} {f : Nat → List Nat → Option (List Nat)} {k : List Nat → Sem PySem.Fin} {z : Sem PySem.Fin} {n : Nat} {l nx : List Nat} (h : f n l = some nx) (hk : wpAny (model prog w) A (k nx) Q E s) :
    wpAny (model prog w) A (match f n l with | some x => k x | none => z) Q E s := by
  rw [h]; exact hk
theorem coreN {prog : Program} {w : World} {A : Around} {E : Value → Shared → Prop} {s : Shared} {Q : PySem.Fin → Shared → Prop} {f : Nat → List Nat → Option (List Nat)} {k : List Nat → Sem PySem.Fin} {z : Sem PySem.Fin} {n : Nat} {l : List Nat} (h : f n l = none) (hk : wpAny (model prog w) A z Q E s) :
    wpAny (model prog w) A (match f n l with | some x => k x | none => z) Q E s := by
  rw [h]; exact hk
theorem coreL {prog : Program} {w : World} {A : Around} {E : Value → Shared → Prop} {s : Shared} {Q : PySem.Fin → Shared → Prop} {f : Nat → List Nat → Option (List Nat)} {k : List Nat → Sem PySem.Fin} {z : Sem PySem.Fin} {n : Nat} {l idx nx : List Nat} (hl : l = idx) (h : f n idx = some nx) (hk : wpAny (model prog w) A (k nx) Q E s) :
    wpAny (model prog w) A (match f n l with | some x => k x | none => z) Q E s := core (by rw [hl]; exact h) hk
theorem coreLN {prog : Program} {w : World} {A : Around} {E : Value → Shared → Prop} {s : Shared} {Q : PySem.Fin → Shared → Prop} {f : Nat → List Nat → Option (List Nat)} {k : List Nat → Sem PySem.Fin} {z : Sem PySem.Fin} {n : Nat} {l idx : List Nat} (hl : l = idx) (h : f n idx = none) (hk : wpAny (model prog w) A z Q E s) :
    wpAny (model prog w) A (match f n l with | some x => k x | none => z) Q E s := coreN (by rw [hl]; exact h) hk
/-- the block that hands a tuple out -/
theorem tail {l0 : List Nat} {prog : Program} {w : World} {A : Around} {E : Value → Shared → Prop} {s : Shared} {a pool : Addr} {items : Array Value} {st : Int} {last : Value} {idx nx : List Nat} (hl0 : l0 = nx) {Q : PySem.Fin → Shared → Prop} {pk : Value → List Nat → Sem Value}
    (hpk : ∀ p l, pk p l = Builtin.Itertools.itPoolItems p >>= fun its => newTuple (l.map fun i => its.getD i .none)) (ha : s.heap.get? a = some (recO pool st last idx)) (hp : s.heap.get? pool = some { cls := .type "tuple", data := .seq items }) (hz : nx.length ≤ 100)
    (hQ : ∀ h' : Heap, h'.get? a = some (recO pool st (.ref s.heap.objs.size) idx) → h'.get? s.heap.objs.size = some { cls := .type "tuple", data := .seq (nx.map fun i => items.getD i .none).toArray } → (∀ b o, b ≠ a → s.heap.get? b = some o → h'.get? b = some o) → Q (.done (.ret (.ref s.heap.objs.size))) { s with heap := h' }) :
    wpAny (model prog w) A (do
      let res ← pk (.ref pool) l0
      let old ← field (.ref a) 2
      setField (.ref a) 2 res
      letGo [old] [res]
      ret res) Q E s := by
  rw [hl0]
  refine wpAny_bind ?_
  rw [hpk]
  unfold Builtin.Itertools.itPoolItems
  refine wpAny_bind (wpAny_bind (wpAny_seqItems hp rfl (wpAny_pure ?_)))
  have hlt : a < s.heap.objs.size := Heap.lt_size ha
  have hsl : nx.length ≤ sizeLine := Nat.le_trans hz (by decide)
  refine wpAny_newTuple ?_ (by rw [List.length_map]; exact hsl)
  have ha2 : (s.heap.push { cls := .type "tuple", data := .seq (nx.map fun i => items.getD i .none).toArray }).get? a = some (recO pool st last idx) := Heap.get?_push_of_some _ ha
  refine wpAny_bind (wpAny_field ha2 rfl (x := last) rfl ?_)
  refine wpAny_bind (wpAny_setField ha2 rfl (by simp) ?_)
  refine wpAny_bind (wpAny_letGo (wpAny_pure ?_))
  refine hQ _ ?_ ?_ fun b o hb e => ?_
  · refine (Heap.get?_update_self _ ha2 rfl).trans ?_
    rfl
  · exact (Heap.get?_update_other _ _ (Nat.ne_of_lt hlt)).trans (Heap.get?_push_size _ rfl)
  · exact (Heap.get?_update_other _ _ (Ne.symm hb)).trans (Heap.get?_push_of_some _ e)

def grab {F : (Nat → List Nat → Option (List Nat)) → Builtin} {f : Nat → List Nat → Option (List Nat)} (_ : Builtin.«itertools.combinations.__next__» = F f) : Nat → List Nat → Option (List Nat) := f
/-- the step, by unification -/
def step : Nat → List Nat → Option (List Nat) := grab (F := _) (f := _) (Eq.refl (Builtin.«itertools.combinations.__next__»))
/-- how two places go on -/
def g2 (n i j : Nat) : Option (List Nat) := match (match (j != 1 + n - 2) with | true => some 1 | false => (match (i != 0 + n - 2) with | true => some 0 | false => (none : Option Nat))) with
  | none => none
  | some k => some ([i, j].take k ++ (List.range (2 - k)).map fun t => [i, j].getD k 0 + 1 + t)
theorem g2_a {n i j : Nat} (h : j + 1 < n) : g2 n i j = some [i, j + 1] := by
  have e : (j != 1 + n - 2) = true := by simp; omega
  unfold g2
  rw [e]
  rfl
theorem g2_b {n i j : Nat} (h : j + 1 = n) (h2 : i + 2 < n) : g2 n i j = some [i + 1, i + 2] := by
  have e : (j != 1 + n - 2) = false := by simp; omega
  have e2 : (i != 0 + n - 2) = true := by simp; omega
  unfold g2
  rw [e, e2]
  rfl

theorem step2 {n i j : Nat} : step n [i, j] = g2 n i j := rfl
theorem stop_at {α : Type} {prog : Program} {w : World} {A : Around} {E : Value → Shared → Prop} {s : Shared} {Q : α → Shared → Prop} (hh : A.handled = none)
    (h : ∀ h' e, (∀ b o, s.heap.get? b = some o → h'.get? b = some o) → (∃ o, h'.get? e = some o ∧ o.cls = .type "StopIteration") → E (.ref e) { s with heap := h' }) : wpAny (model prog w) A (Builtin.Itertools.itStop : Sem α) Q E s := by
  unfold Builtin.Itertools.itStop
  refine wpAny_bind ?_
  simp only [newExc, newTuple]
  refine wpAny_bind (wpAny_newObj_type ?_ (by size_fits))
  refine wpAny_bind (m := firstArgMember _ _) (wpAny_of_eq (a := Value.none) (by first | rfl | (simp only [firstArgMember]; rfl)) ?_)
  refine wpAny_newObj_type ?_ (by size_fits)
  simp only [raiseNew]
  refine wpAny_bind (wpAny_handled ?_)
  rw [hh]
  refine wpAny_bind (wpAny_pure (wpAny_throw ?_))
  exact h _ _ (fun b o q => Heap.get?_push_of_some _ (Heap.get?_push_of_some _ q)) ⟨_, Heap.get?_push_size _ rfl, rfl⟩
/-- a turn: the next places -/
theorem nextG {prog : Program} {w : World} {A : Around} {E : Value → Shared → Prop} {s : Shared} {a pool : Addr} {items : Array Value} {last : Value} {idx nx : List Nat} {Q : PySem.Fin → Shared → Prop} (ha : s.heap.get? a = some (recO pool 1 last idx)) (hp : s.heap.get? pool = some { cls := .type "tuple", data := .seq items })
    (hst : step items.size idx = some nx) (hz : nx.length ≤ 100)
    (hQ : ∀ h' : Heap, h'.get? a = some (recO pool 1 (.ref s.heap.objs.size) nx) → h'.get? s.heap.objs.size = some { cls := .type "tuple", data := .seq (nx.map fun i => items.getD i .none).toArray } → (∀ b o, b ≠ a → s.heap.get? b = some o → h'.get? b = some o) → Q (.done (.ret (.ref s.heap.objs.size))) { s with heap := h' }) :
    wpAny (model prog w) A (Builtin.«itertools.combinations.__next__» ⟨[.ref a], []⟩) Q E s := by
  unfold Builtin.«itertools.combinations.__next__»
  conv => arg 3; whnf
  show wpAny _ _ (field (.ref a) 0 >>= _) _ _ _
  refine wpAny_bind (wpAny_field ha rfl (x := .ref pool) rfl ?_)
  refine wpAny_bind ?_
  unfold Builtin.Itertools.itNumbersFrom
  refine wpAny_bind (wpAny_load ha ?_)
  refine wpAny_pure ?_
  try dsimp only
  refine wpAny_bind ?_
  unfold Builtin.Itertools.itIntField
  refine wpAny_bind (wpAny_field ha rfl (x := rawInt 1) rfl ?_)
  refine wpAny_pure ?_
  try dsimp only
  refine wpAny_bind ?_
  unfold Builtin.Itertools.itPoolItems
  refine wpAny_bind (wpAny_seqItems hp rfl ?_)
  refine wpAny_pure ?_
  refine coreL (f := step) (idx := idx) (nx := nx) (by simp [rawInt, Function.comp_def]) hst ?_
  refine wpAny_bind ?_
  unfold Builtin.Itertools.itSetNumbersFrom
  refine wpAny_updateFields ha rfl ?_ (by
    show _ ≤ _
    simp only [List.size_toArray, Array.size_append, Array.size_extract, List.length_append, List.length_map, List.length_cons, List.length_nil]
    have : sizeLine = 16777216 := sizeLine_eq
    omega)
  have ha3 : (s.heap.update a (Obj.mapFields fun fs => fs.extract 0 3 ++ (List.map (fun n : Nat => rawInt n) nx).toArray)).get? a = some (recO pool 1 last nx) := (Heap.get?_update_self _ ha rfl).trans (by simp [recO, Obj.mapFields])
  have hne : pool ≠ a := fun z => by
    have := congrArg (fun o : Option Obj => o.map Obj.cls) ((z ▸ hp).symm.trans ha)
    simp [recO] at this
  have hsz : (s.heap.update a (Obj.mapFields fun fs => fs.extract 0 3 ++ (List.map (fun n : Nat => rawInt n) nx).toArray)).objs.size = s.heap.objs.size := Heap.size_update ..
  refine tail (nx := nx) rfl (fun _ _ => rfl) ha3 ((Heap.get?_update_other _ _ (Ne.symm hne)).trans hp) hz fun h' e1 e2 e3 => ?_
  rw [hsz] at e1 e2 ⊢
  exact hQ h' e1 e2 fun b o hb hbo => e3 b o hb ((Heap.get?_update_other _ _ (Ne.symm hb)).trans hbo)
/-- the first turn -/
theorem firstG {prog : Program} {w : World} {A : Around} {E : Value → Shared → Prop} {s : Shared} {a pool : Addr} {items : Array Value} {last : Value} {idx : List Nat} {Q : PySem.Fin → Shared → Prop} (ha : s.heap.get? a = some (recO pool 0 last idx)) (hp : s.heap.get? pool = some { cls := .type "tuple", data := .seq items })
    (hz : idx.length ≤ 100)
    (hQ : ∀ h' : Heap, h'.get? a = some (recO pool 1 (.ref s.heap.objs.size) idx) → h'.get? s.heap.objs.size = some { cls := .type "tuple", data := .seq (idx.map fun i => items.getD i .none).toArray } → (∀ b o, b ≠ a → s.heap.get? b = some o → h'.get? b = some o) → Q (.done (.ret (.ref s.heap.objs.size))) { s with heap := h' }) :
    wpAny (model prog w) A (Builtin.«itertools.combinations.__next__» ⟨[.ref a], []⟩) Q E s := by
  unfold Builtin.«itertools.combinations.__next__»
  conv => arg 3; whnf
  show wpAny _ _ (field (.ref a) 0 >>= _) _ _ _
  refine wpAny_bind (wpAny_field ha rfl (x := .ref pool) rfl ?_)
  refine wpAny_bind ?_
  unfold Builtin.Itertools.itNumbersFrom
  refine wpAny_bind (wpAny_load ha ?_)
  refine wpAny_pure ?_
  try dsimp only
  refine wpAny_bind ?_
  unfold Builtin.Itertools.itIntField
  refine wpAny_bind (wpAny_field ha rfl (x := rawInt 0) rfl ?_)
  refine wpAny_pure ?_
  try dsimp only
  refine wpAny_bind (wpAny_setField ha rfl (by simp) ?_)
  have ha3 : (s.heap.update a (Obj.mapFields fun fs => fs.setIfInBounds 1 (rawInt 1))).get? a = some (recO pool 1 last idx) := (Heap.get?_update_self _ ha rfl).trans (by simp [recO, Obj.mapFields])
  have hne : pool ≠ a := fun z => by
    have := congrArg (fun o : Option Obj => o.map Obj.cls) ((z ▸ hp).symm.trans ha)
    simp [recO] at this
  have hsz : (s.heap.update a (Obj.mapFields fun fs => fs.setIfInBounds 1 (rawInt 1))).objs.size = s.heap.objs.size := Heap.size_update ..
  refine tail (nx := idx) (by simp [rawInt, Function.comp_def]) (fun _ _ => rfl) ha3 ((Heap.get?_update_other _ _ (Ne.symm hne)).trans hp) hz fun h' e1 e2 e3 => ?_
  replace e1 := hsz ▸ e1
  replace e2 := hsz ▸ e2
  show Q (.done (.ret (.ref (s.heap.update a (Obj.mapFields fun fs => fs.setIfInBounds 1 (rawInt 1))).objs.size))) _
  rw [hsz]
  exact hQ h' e1 e2 fun b o hb hbo => e3 b o hb ((Heap.get?_update_other _ _ (Ne.symm hb)).trans hbo)
/-- the last turn -/
theorem endG {prog : Program} {w : World} {A : Around} {E : Value → Shared → Prop} {s : Shared} {a pool : Addr} {items : Array Value} {last : Value} {idx : List Nat} {Q : PySem.Fin → Shared → Prop} (ha : s.heap.get? a = some (recO pool 1 last idx)) (hp : s.heap.get? pool = some { cls := .type "tuple", data := .seq items })
    (hst : step items.size idx = none) (hh : A.handled = none) (hE : ∀ h' e, (∀ b o, b ≠ a → s.heap.get? b = some o → h'.get? b = some o) → (∃ o, h'.get? e = some o ∧ o.cls = .type "StopIteration") → E (.ref e) { s with heap := h' }) :
    wpAny (model prog w) A (Builtin.«itertools.combinations.__next__» ⟨[.ref a], []⟩) Q E s := by
  unfold Builtin.«itertools.combinations.__next__»
  conv => arg 3; whnf
  show wpAny _ _ (field (.ref a) 0 >>= _) _ _ _
  refine wpAny_bind (wpAny_field ha rfl (x := .ref pool) rfl ?_)
  refine wpAny_bind ?_
  unfold Builtin.Itertools.itNumbersFrom
  refine wpAny_bind (wpAny_load ha ?_)
  refine wpAny_pure ?_
  try dsimp only
  refine wpAny_bind ?_
  unfold Builtin.Itertools.itIntField
  refine wpAny_bind (wpAny_field ha rfl (x := rawInt 1) rfl ?_)
  refine wpAny_pure ?_
  try dsimp only
  refine wpAny_bind ?_
  unfold Builtin.Itertools.itPoolItems
  refine wpAny_bind (wpAny_seqItems hp rfl ?_)
  refine wpAny_pure ?_
  refine coreLN (f := step) (idx := idx) (by simp [rawInt, Function.comp_def]) hst ?_
  refine wpAny_bind (wpAny_setField ha rfl (by simp) ?_)
  refine stop_at hh fun h' e k x => hE h' e (fun b o hb q => k b o ((Heap.get?_update_other _ _ (Ne.symm hb)).trans q)) x
/-- a walk that has nothing -/
theorem endG2 {prog : Program} {w : World} {A : Around} {E : Value → Shared → Prop} {s : Shared} {a pool : Addr} {last : Value} {idx : List Nat} {Q : PySem.Fin → Shared → Prop} (ha : s.heap.get? a = some (recO pool 2 last idx)) (hh : A.handled = none)
    (hE : ∀ h' e, (∀ b o, s.heap.get? b = some o → h'.get? b = some o) → (∃ o, h'.get? e = some o ∧ o.cls = .type "StopIteration") → E (.ref e) { s with heap := h' }) :
    wpAny (model prog w) A (Builtin.«itertools.combinations.__next__» ⟨[.ref a], []⟩) Q E s := by
  unfold Builtin.«itertools.combinations.__next__»
  conv => arg 3; whnf
  show wpAny _ _ (field (.ref a) 0 >>= _) _ _ _
  refine wpAny_bind (wpAny_field ha rfl (x := .ref pool) rfl ?_)
  refine wpAny_bind ?_
  unfold Builtin.Itertools.itNumbersFrom
  refine wpAny_bind (wpAny_load ha ?_)
  refine wpAny_pure ?_
  try dsimp only
  refine wpAny_bind ?_
  unfold Builtin.Itertools.itIntField
  refine wpAny_bind (wpAny_field ha rfl (x := rawInt 2) rfl ?_)
  refine wpAny_pure ?_
  try dsimp only
  refine wpAny_bind (wpAny_rule ?_)
  exact stop_at hh hE
theorem owner : Manifest.owners.lookup (String.ofList ['s', 'n', 'o', 'i', 't', 'a', 'n', 'i', 'b', 'm', 'o', 'c', '.', 's', 'l', 'o', 'o', 't', 'r', 'e', 't', 'i'].reverse) = some Manifest.sig_itertools_combinations := by kernel_rfl
theorem args_next (a : Value) : argsOk "itertools.combinations.__next__" ⟨[a], []⟩ := by
  unfold argsOk; rw [signature?_of (id := "itertools.combinations.__next__") (n := ['_', '_', 't', 'x', 'e', 'n', '_', '_']) (o := ['s', 'n', 'o', 'i', 't', 'a', 'n', 'i', 'b', 'm', 'o', 'c', '.', 's', 'l', 'o', 'o', 't', 'r', 'e', 't', 'i']) (by kernel_rfl) owner]; kernel_rfl
theorem args_iter (a : Value) : argsOk "itertools.combinations.__iter__" ⟨[a], []⟩ := by
  unfold argsOk; rw [signature?_of (id := "itertools.combinations.__iter__") (n := ['_', '_', 'r', 'e', 't', 'i', '_', '_']) (o := ['s', 'n', 'o', 'i', 't', 'a', 'n', 'i', 'b', 'm', 'o', 'c', '.', 's', 'l', 'o', 'o', 't', 'r', 'e', 't', 'i']) (by kernel_rfl) owner]; kernel_rfl
section
variable {prog : Program} {w : World} {A : Around} {E : Value → Shared → Prop} {s : Shared} {a pool : Addr} {items : Array Value} {last : Value} {idx nx : List Nat}
theorem pn_next {Q : Option Value → Shared → Prop} (ha : s.heap.get? a = some (recO pool 1 last idx)) (hp : s.heap.get? pool = some { cls := .type "tuple", data := .seq items }) (hst : step items.size idx = some nx) (hz : nx.length ≤ 100)
    (hQ : ∀ h' : Heap, h'.get? a = some (recO pool 1 (.ref s.heap.objs.size) nx) → h'.get? s.heap.objs.size = some { cls := .type "tuple", data := .seq (nx.map fun i => items.getD i .none).toArray } → (∀ b o, b ≠ a → s.heap.get? b = some o → h'.get? b = some o) → Q (some (.ref s.heap.objs.size)) { s with heap := h' }) :
    wpAny (model prog w) A (pyNext (.ref a)) Q E s := by
  have hT : s.TypeIs (.ref a) "itertools.combinations" := ⟨_, ha, rfl⟩
  unfold pyNext
  exact wpAny_bind (wpAny_attempt (wpAny_callSpecial?_slot (name := Str.ofString "__next__") hT slot_next
    (wpAny_call_entry slot_next hT entry_next (nextG ha hp hst hz fun h' e1 e2 e3 => ⟨_, rfl, wpAny_pure (hQ h' e1 e2 e3)⟩) (args_next _))))
theorem pn_first {Q : Option Value → Shared → Prop} (ha : s.heap.get? a = some (recO pool 0 last idx)) (hp : s.heap.get? pool = some { cls := .type "tuple", data := .seq items }) (hz : idx.length ≤ 100)
    (hQ : ∀ h' : Heap, h'.get? a = some (recO pool 1 (.ref s.heap.objs.size) idx) → h'.get? s.heap.objs.size = some { cls := .type "tuple", data := .seq (idx.map fun i => items.getD i .none).toArray } → (∀ b o, b ≠ a → s.heap.get? b = some o → h'.get? b = some o) → Q (some (.ref s.heap.objs.size)) { s with heap := h' }) :
    wpAny (model prog w) A (pyNext (.ref a)) Q E s := by
  have hT : s.TypeIs (.ref a) "itertools.combinations" := ⟨_, ha, rfl⟩
  unfold pyNext
  exact wpAny_bind (wpAny_attempt (wpAny_callSpecial?_slot (name := Str.ofString "__next__") hT slot_next
    (wpAny_call_entry slot_next hT entry_next (firstG ha hp hz fun h' e1 e2 e3 => ⟨_, rfl, wpAny_pure (hQ h' e1 e2 e3)⟩) (args_next _))))
theorem pn_end {Q : Option Value → Shared → Prop} (hh : A.handled = none) (ha : s.heap.get? a = some (recO pool 1 last idx)) (hp : s.heap.get? pool = some { cls := .type "tuple", data := .seq items }) (hst : step items.size idx = none)
    (hQ : ∀ h' : Heap, (∀ b o, b ≠ a → s.heap.get? b = some o → h'.get? b = some o) → Q none { s with heap := h' }) :
    wpAny (model prog w) A (pyNext (.ref a)) Q E s := by
  have hT : s.TypeIs (.ref a) "itertools.combinations" := ⟨_, ha, rfl⟩
  unfold pyNext
  refine wpAny_bind (wpAny_attempt (wpAny_callSpecial?_slot (name := Str.ofString "__next__") hT slot_next
    (wpAny_call_entry slot_next hT entry_next (endG ha hp hst hh fun h' e k x => ?_) (args_next _))))
  obtain ⟨o, ho, hc⟩ := x
  refine wpAny_bind (wpAny_isInstance (T := "StopIteration") (b := true) ⟨o, ho, hc⟩ isSubtype_stop ?_)
  exact wpAny_pure (hQ _ k)
theorem pn_end2 {Q : Option Value → Shared → Prop} (hh : A.handled = none) (ha : s.heap.get? a = some (recO pool 2 last idx))
    (hQ : ∀ h' : Heap, (∀ b o, s.heap.get? b = some o → h'.get? b = some o) → Q none { s with heap := h' }) :
    wpAny (model prog w) A (pyNext (.ref a)) Q E s := by
  have hT : s.TypeIs (.ref a) "itertools.combinations" := ⟨_, ha, rfl⟩
  unfold pyNext
  refine wpAny_bind (wpAny_attempt (wpAny_callSpecial?_slot (name := Str.ofString "__next__") hT slot_next
    (wpAny_call_entry slot_next hT entry_next (endG2 ha hh fun h' e k x => ?_) (args_next _))))
  obtain ⟨o, ho, hc⟩ := x
  refine wpAny_bind (wpAny_isInstance (T := "StopIteration") (b := true) ⟨o, ho, hc⟩ isSubtype_stop ?_)
  exact wpAny_pure (hQ _ k)
theorem pi_self {st : Int} {Q : Value → Shared → Prop} (ha : s.heap.get? a = some (recO pool st last idx)) (h : Q (.ref a) s) : wpAny (model prog w) A (pyIter (.ref a)) Q E s := by
  have hT : s.TypeIs (.ref a) "itertools.combinations" := ⟨_, ha, rfl⟩
  refine wpAny_pyIter_slot hT slot_iter (wpAny_call_entry slot_iter hT entry_iter ?_ (args_iter _))
  show wpAny _ _ (ret (.ref a)) _ _ s
  exact wpAny_pure ⟨_, rfl, "itertools.combinations", _, hT, slot_next.lookup, h⟩
/-- combinations(list, r) -/
theorem call_comb {l : Addr} {r : Int} {t : Tok} {o : Obj} {items : Array Value} {n : Nat} {Q : Value → Shared → Prop} (h1 : s.heap.get? l = some o) (h2 : o.cls = .type "list") (h3 : o.data = .seq items n) (hz : items.size ≤ sizeLine) (r0 : 0 ≤ r) (r1 : r ≤ 2 ^ 20)
    (h : ∀ h1 h' : Heap, (∀ c o', s.heap.get? c = some o' → h1.get? c = some o') → (∀ c o', h1.get? c = some o' → h'.get? c = some o') → h'.get? h1.objs.size = some { cls := .type "tuple", data := .seq items } →
      h'.get? (h1.objs.size + 1) = some (recO h1.objs.size (if r.toNat > items.size then 2 else 0) .none (List.range r.toNat)) → Q (.ref (h1.objs.size + 1)) { s with heap := h' }) :
    wpAny (model prog w) A (call (.type "itertools.combinations") [.ref l, .int r t]) Q E s := by
  refine callType_new called (by decide) (typeCall_2 _ _) (newCall_2 _ _) (fun obj => F.args_object_init_3 obj _ _) entry_new (meets_new l r t) ⟨o, items, n, h1, h2, h3, hz, r0, r1, fun h' k => ?_⟩
  have hz2 : (h'.push { cls := .type "tuple", data := .seq items }).objs.size = h'.objs.size + 1 := Heap.size_push ..
  have e1 : ((h'.push { cls := .type "tuple", data := .seq items }).push (recO h'.objs.size (if r.toNat > items.size then 2 else 0) .none (List.range r.toNat))).get? (h'.objs.size + 1) = some (recO h'.objs.size (if r.toNat > items.size then 2 else 0) .none (List.range r.toNat)) := by
    have := Heap.get?_push_size (h'.push { cls := .type "tuple", data := .seq items }) (o := recO h'.objs.size (if r.toNat > items.size then 2 else 0) .none (List.range r.toNat)) rfl
    rw [hz2] at this; exact this
  show _ ∧ _
  exact ⟨⟨_, e1, rfl⟩, h h' _ k (fun c o' q => Heap.get?_push_of_some _ (Heap.get?_push_of_some _ q)) (Heap.get?_push_of_some _ (Heap.get?_push_size _ rfl)) e1⟩
end
end CB

set_option Elab.async false
set_option linter.all false
set_option maxRecDepth 100000
set_option maxHeartbeats 4000000
namespace CB
open PySem PySem.Spec PyProof.Rows L2
/-- the places that come, in their order -/
structure Chain (n r : Nat) (L : List (List Nat)) : Prop where
  big : r ≤ 100
  first : 0 < L.length → L[0]? = some (List.range r) ∧ r ≤ n
  none : L.length = 0 → n < r
  next : ∀ (i : Nat) idx, L[i]? = some idx → step n idx = L[i + 1]?
  short : ∀ (i : Nat) idx, L[i]? = some idx → idx.length ≤ 100 ∧ ∀ p ∈ idx, p < n
/-- new tuples of the items at the places -/
def Itc (L : List (List Nat)) (xs : List V) : It :=
  ⟨fun i H => i < L.length, fun i H v H' => ∃ T idx, v = .ref T ∧ H T = none ∧ L[i]? = some idx ∧ H' = upd H T (.tup (idx.map fun j => xs.getD j (.int 0))), fun i H => L.length ≤ i⟩
def Tn (n r : Nat) (L : List (List Nat)) (items : Array Value) (a pool : Addr) (i : Nat) (h : Heap) : Prop :=
  h.get? pool = some { cls := .type "tuple", data := .seq items } ∧ pool ≠ a ∧ ((i = 0 ∧ ∃ last, h.get? a = some (recO pool (if r > n then 2 else 0) last (List.range r))) ∨ ∃ last idx j, i = j + 1 ∧ L[j]? = some idx ∧ h.get? a = some (recO pool 1 last idx))
theorem valsAt {xs : List V} {its : List Value} (r : Vals xs its) : ∀ (idx : List Nat), (∀ p ∈ idx, p < xs.length) → Vals (idx.map fun j => xs.getD j (.int 0)) (idx.map fun i => its.toArray.getD i .none)
  | [], _ => .nil
  | j :: idx, h => by
    have hj := h j (by simp)
    obtain ⟨u, hu, ru⟩ := r.get (List.getElem?_eq_getElem hj)
    refine .cons ?_ (valsAt r idx fun p hp => h p (by simp [hp]))
    have e1 : xs.getD j (.int 0) = xs[j] := by simp [List.getD, hj]
    have e2 : its.toArray.getD j .none = u := by simp [Array.getD_eq_getD_getElem?, hu]
    show RelV (xs.getD j (.int 0)) (its.toArray.getD j .none)
    rw [e1, e2]; exact ru
theorem turn_comb {P : Program} {w : World} {K : PySem.W.Frag} {tg : Expr} {xs : List V} {its : List Value} {r : Nat} {L : List (List Nat)} (rv : Vals xs its) (hC : Chain xs.length r L) (a pool : Addr) :
    Turn P w K tg (Itc L xs) [a, pool] a (Tn xs.length r L its.toArray a pool) where
  mem := by simp
  obj := fun i h st b hb => by
    obtain ⟨h1, _, h2⟩ := st
    have e' : b = a ∨ b = pool := by simpa using hb
    rcases e' with z | z
    · rw [z]
      rcases h2 with ⟨_, last, h2⟩ | ⟨last, idx, j, _, _, h2⟩
      · exact ⟨_, h2, fun v q => nomatch q⟩
      · exact ⟨_, h2, fun v q => nomatch q⟩
    · rw [z]; exact ⟨_, h1, fun v q => nomatch q⟩
  keep := fun i h h' st k => by
    obtain ⟨h1, hne, h2⟩ := st
    refine ⟨k pool (by simp) _ h1, hne, ?_⟩
    rcases h2 with ⟨e, last, h2⟩ | ⟨last, idx, j, e, e', h2⟩
    · exact .inl ⟨e, last, k a (by simp) _ h2⟩
    · exact .inr ⟨last, idx, j, e, e', k a (by simp) _ h2⟩
  item := by
    intro X hP hw hK hc i pins s σ H E I hf st hg
    subst hP hw hK
    have hlen := rv.length
    have hsz : its.toArray.size = xs.length := by simp [hlen]
    obtain ⟨h1, hne, h2⟩ := st
    have hpl : pool < s.heap.objs.size := Heap.lt_size h1
    have hal : a < s.heap.objs.size := by
      rcases h2 with ⟨e, last, h2⟩ | ⟨last, idx, j, e, e', h2⟩ <;> exact Heap.lt_size h2
    have fin : ∀ nx (h' : Heap), L[i]? = some nx → h'.get? a = some (recO pool 1 (.ref s.heap.objs.size) nx) → h'.get? s.heap.objs.size = some { cls := .type "tuple", data := .seq (nx.map fun i => its.toArray.getD i .none).toArray } → (∀ b o, b ≠ a → s.heap.get? b = some o → h'.get? b = some o) →
        ∃ u, some (Value.ref s.heap.objs.size) = some u ∧ wpAny (model X.prog X.w) X.A (letOwnedTupleGo tg (.ref a) u) (fun _ s2 => ∃ x H', Inv X pins σ H' s2 ∧ RelV x u ∧ (Itc L xs).yld i H x H' ∧ Tn xs.length r L its.toArray a pool (i + 1) s2.heap ∧ ∀ b ∈ [a, pool], H' b = none) E { s with heap := h' } := by
      intro nx h' hL e1 e2 e3
      obtain ⟨z1, z2⟩ := hC.short i nx hL
      have new : ObjOk X.prog X.w (upd H s.heap.objs.size (.tup (nx.map fun j => xs.getD j (.int 0)))) h' s.heap.objs.size (.tup (nx.map fun j => xs.getD j (.int 0))) :=
        ⟨by rw [List.length_map]; exact Nat.le_trans z1 (by decide), _, valsAt rv nx z2, ⟨_, e2, rfl, _, rfl⟩⟩
      have I1 : Inv X pins σ (upd H s.heap.objs.size (.tup (nx.map fun j => xs.getD j (.int 0)))) { s with heap := h', toks := s.toks } :=
        I.turnedNew (ch := [a, pool]) (fun b ob hb q => e3 b ob (fun z => hb (by simp [z])) q) hf (Nat.le_refl _) new
      refine ⟨_, rfl, go_of (s := { s with heap := h' }) e1 rfl rfl (by decide) ⟨.ref s.heap.objs.size, _, I1, rfl, ⟨_, nx, rfl, I.hok.fresh (Nat.le_refl _), hL, rfl⟩, ⟨e3 pool _ hne h1, hne, .inr ⟨_, nx, i, rfl, hL, e1⟩⟩, fun b hb => ?_⟩⟩
      have hb' : b < s.heap.objs.size := by
        have e' : b = a ∨ b = pool := by simpa using hb
        rcases e' with z | z
        · rw [z]; exact hal
        · rw [z]; exact hpl
      rw [upd_ne (Nat.ne_of_lt hb')]
      exact (hf b hb).1
    have hg : i < L.length := hg
    rcases h2 with ⟨e, last, h2⟩ | ⟨last, idx, j, e, e', h2⟩
    · subst e
      obtain ⟨f1, f2⟩ := hC.first hg
      rw [if_neg (by omega)] at h2
      exact pn_first h2 h1 (by rw [List.length_range]; exact hC.big) fun h' e1 e2 e3 => fin _ h' f1 e1 e2 e3
    · subst e
      have hL := List.getElem?_eq_getElem hg
      exact pn_next h2 h1 (by rw [hsz, hC.next j idx e', hL]) (hC.short _ _ hL).1 fun h' e1 e2 e3 => fin _ h' hL e1 e2 e3
  done := by
    intro X hP hw hK hc i pins s σ H E I hf st hg
    subst hP hw hK
    have hlen := rv.length
    have hsz : its.toArray.size = xs.length := by simp [hlen]
    obtain ⟨h1, hne, h2⟩ := st
    have hg : L.length ≤ i := hg
    obtain ⟨f0, f1, f2, f3, f4, f5⟩ := hf a (by simp)
    rcases h2 with ⟨e, last, h2⟩ | ⟨last, idx, j, e, e', h2⟩
    · subst e
      have := hC.none (by omega)
      rw [if_pos this] at h2
      exact pn_end2 (I.ok.hd hc) h2 fun h' eb => ⟨rfl, I.turned (t' := s.toks) (fun b o hb q => eb b o q) f0 f1 f3 f4 f5⟩
    · subst e
      exact pn_end (I.ok.hd hc) h2 h1 (by rw [hsz, hC.next j idx e', List.getElem?_eq_none hg]) fun h' eb => ⟨rfl, I.turned (t' := s.toks) (fun b o hb q => eb b o hb q) f0 f1 f3 f4 f5⟩
  self := fun A i s Q E st h => by
    obtain ⟨_, _, h2⟩ := st
    rcases h2 with ⟨e, last, h2⟩ | ⟨last, idx, j, e, e', h2⟩
    · exact pi_self h2 h
    · exact pi_self h2 h
end CB

set_option Elab.async false
set_option linter.all false
set_option maxRecDepth 100000
set_option maxHeartbeats 4000000
namespace CB
open PySem PySem.Spec PyProof.Rows L2
def iComb (K : PySem.W.Frag) (ta : TA) : TI := fun σ H R => ta σ H fun vs H1 => ∃ a xs, ∃ r : Nat, ∃ L, vs = [.ref a, .int (r : Int)] ∧ SqL K H1 a xs ∧ Chain xs.length r L ∧ R (Itc L xs) H1
theorem pi_comb {X : Cx} {tg e er : Expr} {ta : TA} {x : Str} {p pos : Pos} (hg : Gl X x) (hm : X.mg x = some (.type "itertools.combinations")) (ha : PA X [e, er] ta) (hdb : (x == ("__debug__" : Str)) = false := by decide)
    (hs : starEach [e, er] X.env = (false, eval e X.env) :: starEach [er] X.env := by rfl) (hpl : (backTo pos (starEach [er] X.env)).any (·.1) = false := by rfl) :
    PI X tg (.Call (.Name x p) [e, er] [] pos) (iComb X.K ta) := by
  refine ⟨fun pins s σ H R I h => ?_⟩
  refine wpAny_Call_Name_kw (ld_glob I hg hm ?_ hdb)
  refine PyProof.Rows.callWith_type1 (thn (ha.run pos pins s σ H _ I h) fun us s1 ⟨vs, H1, I1, r1, q1⟩ => ?_) hs hpl
  obtain ⟨a, xs, r, L, ex, hq, hC, q⟩ := q1
  subst ex
  cases r1 with
  | cons r rr =>
    cases rr with
    | cons r2 rr =>
      cases rr
      cases r
      obtain ⟨t, rfl⟩ := r2
      obtain ⟨its, rv, ⟨o, n, p1, p2, p3, p4⟩, hz⟩ := I1.list hq
      have hlen := rv.length
      have hb := hC.big
      have hsz : its.toArray.size = xs.length := by simp [hlen]
      refine call_comb p1 p2 p4 (by rw [hsz]; exact hz) (Int.natCast_nonneg _) (by have : ((2 : Int) ^ 20) = 1048576 := by decide
                                                                                   omega) fun h1 h2 k1 k2 e1 e2 => pi_self e2 ?_
      have I2 : Inv X pins σ H1 { s1 with heap := h1 } := I1.kept (t' := s1.toks) k1
      have I3 : Inv X pins σ H1 { s1 with heap := h2 } := I1.kept (t' := s1.toks) fun c o' z => k2 c o' (k1 c o' z)
      refine ⟨h1.objs.size + 1, [h1.objs.size + 1, h1.objs.size], _, _, H1, rfl, I3, turn_comb rv hC (h1.objs.size + 1) h1.objs.size, ⟨e1, Nat.ne_of_lt (Nat.lt_succ_self _), .inl ⟨rfl, .none, ?_⟩⟩, fun b hb => ?_, q⟩
      · rw [hsz] at e2; exact e2
      · have e' : b = h1.objs.size + 1 ∨ b = h1.objs.size := by simpa using hb
        have hle : h1.objs.size ≤ b := by
          rcases e' with z | z
          · rw [z]; exact Nat.le_add_right _ _
          · rw [z]; exact Nat.le_refl _
        exact I2.fpOk (s := { s1 with heap := h1 }) hle (I2.hok.fresh hle)
theorem dpa_at {K : PySem.W.Frag} {G : Hp} {xs : List V} {ds : List PyData} (d : M.DtAll K G xs ds) : ∀ (idx : List Nat), (∀ p ∈ idx, p < ds.length) → M.DtAll K G (idx.map fun j => xs.getD j (.int 0)) (idx.map fun j => ds.getD j (.int 0))
  | [], _ => .nil
  | j :: idx, h => by
    have hj := h j (by simp)
    obtain ⟨v, hv, dv⟩ := M.dpa_get d (List.getElem?_eq_getElem hj)
    refine .cons ?_ (dpa_at d idx fun p hp => h p (by simp [hp]))
    have e1 : ds.getD j (.int 0) = ds[j] := by simp [List.getD, hj]
    have e2 : xs.getD j (.int 0) = v := by simp [List.getD, hv]
    show M.Dt K G (xs.getD j (.int 0)) (ds.getD j (.int 0))
    rw [e1, e2]; exact dv
/-- the tuples that come -/
def combD (L : List (List Nat)) (ds : List PyData) : List PyData := L.map fun idx => PyData.tuple (idx.map fun j => ds.getD j (.int 0))
theorem seq_comb {C : M.Cn} {G : Hp} {xs : List V} {ds : List PyData} {L : List (List Nat)} {r : Nat} (d : M.DtAll C.X.K G xs ds) (hC : Chain ds.length r L) : M.SeqOk C (Itc L xs) G (combD L ds) where
  go := fun pv σ G1 H1 τ n i d' A e hi => by
    unfold combD at hi
    rw [List.getElem?_map] at hi
    cases hq : L[i]? with
    | none => rw [hq] at hi; cases hi
    | some idx =>
      rw [hq] at hi
      have hi : PyData.tuple (idx.map fun j => ds.getD j (.int 0)) = d' := Option.some.inj hi
      subst hi
      refine ⟨(List.getElem?_eq_some_iff.mp hq).1, fun x H' y => ?_⟩
      obtain ⟨T, idx', rfl, hT, hL, rfl⟩ := y
      rw [hq] at hL
      cases hL
      have ex : M.Ex G1 (upd G1 T (.tup (idx.map fun j => xs.getD j (.int 0)))) := M.Ex.new (A.freshG hT)
      exact ⟨_, A.new hT, ex, .tup (SqT.of upd_same) (dpa_at (M.dpAll_ex (e.trans ex) _ _ d) idx (hC.short i idx hq).2)⟩
  stop := fun pv σ G1 H1 τ n i A e hi => by
    unfold combD at hi
    rw [List.length_map] at hi
    exact hi
theorem ei_comb {C : M.Cn} {τ : List M.Sl} {n : Nat} {tg e er : Expr} {pos p : Pos} {x : Str} {QI : List PyData → List M.Sl → Nat → Prop} (hg : Gl C.X x) (hm : C.X.mg x = some (.type "itertools.combinations"))
    (h : M.EA C τ n [e, er] fun xs τ1 n1 => ∃ ds, ∃ r : Nat, ∃ L, xs = [.d (.list ds), M.aI (r : Int)] ∧ Chain ds.length r L ∧ QI (combD L ds) τ1 n1) (hdb : (x == ("__debug__" : Str)) = false := by decide)
    (hs : starEach [e, er] C.X.env = [(false, eval e C.X.env), (false, eval er C.X.env)] := by rfl) (hs2 : starEach [er] C.X.env = [(false, eval er C.X.env)] := by rfl) : M.EI C τ n tg (.Call (.Name x p) [e, er] [] pos) QI := by
  intro pv σ G H R A k
  refine M.ri_of (pi_comb hg hm M.pa_ra hdb (by rw [hs, hs2]) (by rw [hs2]; rfl)) ?_
  refine h pv σ G H _ A fun vs xs G1 H1 τ1 n1 A1 e1 r1 ⟨ds, r, L, ex, hC, q⟩ => ?_
  subst ex
  obtain ⟨v, u, rfl, r1, r2⟩ := M.rvAll2 r1
  obtain ⟨l, ys, rfl, hl, d1⟩ := r1.list
  rw [r2.int]
  exact ⟨l, ys, r, L, rfl, SqL.of (A1.gh _ _ hl), by rw [M.dpa_len d1]; exact hC, k _ _ G1 H1 τ1 n1 A1 e1 (seq_comb d1 hC) q⟩
end CB

set_option Elab.async false
set_option linter.all false
set_option maxRecDepth 100000
set_option maxHeartbeats 4000000
namespace CB
open PySem PySem.Spec PyProof.Rows L2
/-- the pairs of places, in order -/
def prs (n : Nat) : List (List Nat) := (List.range n).flatMap fun i => ((List.range n).filter fun j => decide (i < j)).map fun j => [i, j]
def tps (n : Nat) : List (List Nat) := (List.range n).flatMap fun i => (prs n).filterMap fun p => match p with
  | [j, k] => if i < j then some [i, j, k] else none
  | _ => none
def chainB (n r : Nat) (L : List (List Nat)) : Bool :=
  decide (r ≤ 100) && (L.length == 0 || (L[0]? == some (List.range r) && decide (r ≤ n))) && (L.length != 0 || decide (n < r)) &&
    (List.range L.length).all fun i => match L[i]? with
      | some idx => step n idx == L[i + 1]? && decide (idx.length ≤ 100) && idx.all fun p => decide (p < n)
      | none => true
theorem chain_of {n r : Nat} {L : List (List Nat)} (h : chainB n r L = true) : Chain n r L := by
  unfold chainB at h
  simp only [Bool.and_eq_true, Bool.or_eq_true, decide_eq_true_eq, beq_iff_eq, bne_iff_ne, ne_eq, List.all_eq_true, List.mem_range] at h
  obtain ⟨⟨⟨h1, h2⟩, h3⟩, h4⟩ := h
  have key : ∀ (i : Nat) idx, L[i]? = some idx → step n idx = L[i + 1]? ∧ idx.length ≤ 100 ∧ ∀ p ∈ idx, p < n := fun i idx e => by
    have := h4 i (List.getElem?_eq_some_iff.mp e).1
    rw [e] at this
    simp only [Bool.and_eq_true, decide_eq_true_eq, beq_iff_eq, List.all_eq_true] at this
    exact ⟨this.1.1, this.1.2, this.2⟩
  refine ⟨h1, fun p => ?_, fun p => ?_, fun i idx e => (key i idx e).1, fun i idx e => (key i idx e).2⟩
  · rcases h2 with q | q
    · omega
    · exact q
  · rcases h3 with q | q
    · exact absurd p q
    · exact q
theorem chain2 : ∀ n, n ≤ 10 → Chain n 2 (prs n) := fun n h => chain_of (by
  have : ∀ n < 11, chainB n 2 (prs n) = true := by decide +kernel
  exact this n (by omega))
theorem chain3 : ∀ n, n ≤ 10 → Chain n 3 (tps n) := fun n h => chain_of (by
  have : ∀ n < 11, chainB n 3 (tps n) = true := by decide +kernel
  exact this n (by omega))
end CB

set_option Elab.async false
set_option linter.all false
set_option maxRecDepth 100000
set_option maxHeartbeats 4000000
namespace M
open PySem PySem.Spec PyProof.Rows L2
theorem canL_LL : ∀ nss : List (List Int), PyData.canLayAll0 (nss.map dL) = true
  | [] => by simp [PyData.canLayAll0]
  | n :: r => by
    have h := canL_LL r
    have h2 := canL_ints n
    simp only [List.map_cons, PyData.canLayAll0, PyData.canLay0, h2, Bool.true_and]
    exact h
theorem dep_LL : ∀ nss : List (List Int), PyData.depthAll (nss.map dL) ≤ 1
  | [] => by simp [PyData.depthAll]
  | n :: r => by
    have h := dep_LL r
    simp only [List.map_cons, PyData.depthAll, PyData.depth]
    rw [dep_ints]
    omega
theorem shaped_LL (nss : List (List Int)) : SeqAt.shaped (dLL nss) = true := by
  unfold SeqAt.shaped
  have h1 : PyData.canLay0 (dLL nss) = true := by simp only [PyData.canLay0]; exact canL_LL nss
  have h2 : PyData.depth (dLL nss) ≤ 64 := by
    simp only [PyData.depth]
    have := dep_LL nss
    omega
  rw [h1, decide_eq_true h2]; rfl
theorem eqv_All : ∀ nss mss : List (List Int), PyData.eqvAll (nss.map dL) (mss.map dL) = decide (nss = mss)
  | [], [] => by simp [PyData.eqvAll]
  | [], _ :: _ => by simp [PyData.eqvAll]
  | _ :: _, [] => by simp [PyData.eqvAll]
  | n :: r, m :: s => by
    have h := eqv_All r s
    simp only [List.map_cons, PyData.eqvAll]
    have e := eqv_dL n m
    rw [e, h]
    by_cases h1 : n = m <;> by_cases h2 : r = s <;> simp [h1, h2]
theorem eqv_LL (nss mss : List (List Int)) : PyData.eqv (dLL nss) (dLL mss) = decide (nss = mss) := by
  simp only [PyData.eqv]
  exact eqv_All nss mss
section
variable {C : Cn} {τ : List Sl} {n : Nat} {Q : Av → List Sl → Nat → Prop}
theorem peq_LL {ns ms : List (List Int)} (h : Q (aB (decide (ns = ms))) τ n) : PEq Q (.d (dLL ns)) (.d (dLL ms)) τ n := .inr ⟨_, _, rfl, rfl, shaped_LL _, shaped_LL _, by rw [eqv_LL]; exact h⟩
theorem pne_LL {ns ms : List (List Int)} (h : Q (aB (!decide (ns = ms))) τ n) : PNe Q (.d (dLL ns)) (.d (dLL ms)) τ n := .inr ⟨_, _, rfl, rfl, shaped_LL _, shaped_LL _, by rw [eqv_LL]; exact h⟩
theorem pne_sameLL {ns : List (List Int)} (h : Q (aB (!true)) τ n) : PNe Q (.d (dLL ns)) (.d (dLL ns)) τ n := pne_LL (by rw [decide_eq_true rfl]; exact h)
theorem peq_sameLL {ns : List (List Int)} (h : Q (aB true) τ n) : PEq Q (.d (dLL ns)) (.d (dLL ns)) τ n := peq_LL (by rw [decide_eq_true rfl]; exact h)
theorem sxs_open {D : AE} {body : List Stmt} {s : Stmt} {r : List Stmt} (h : SXs C τ n (s :: r) D) (e : body = s :: r) : SXs C τ n body D := e ▸ h
theorem tg_tup2g {X : Cx} {i j : Nat} {z y : Str} {p p2 p3 : Pos} {kk : Nat} (hc : X.calm = true) (nd : X.N.Nodup) (h : Lm X i z) (h2 : Lm X j y) :
    Tg X (.Tuple [.Name z p, .Name y p2] kk p3) [i, j] (fun d => ∃ d1 d2, d = .tuple [d1, d2]) (fun d τ => (τ.set i (.st (.d (prj d 0)))).set j (.st (.d (prj d 1)))) := tg_tup2 hc nd h h2
end
end M

set_option Elab.async false
set_option linter.all false
set_option maxRecDepth 100000
set_option maxHeartbeats 4000000
namespace M
open PySem PySem.Spec PyProof.Rows L2
section
variable {C : Cn} {τ : List Sl} {n : Nat} {e : Expr} {pos : Pos} {Q : Av → List Sl → Nat → Prop} {D : AE}
theorem sx_un3 {i j l : Nat} {z y w : Str} {p p2 p3 p4 : Pos} {kk : Nat} (hc : C.X.calm = true) (nd : C.X.N.Nodup) (hz : Lm C.X i z) (hy : Lm C.X j y) (hw : Lm C.X l w)
    (h : EX C τ n e fun x τ1 n1 => ∃ d1 d2 d3, x = .d (.list [d1, d2, d3]) ∧ D.nx (((τ1.set i (.st (.d d1))).set j (.st (.d d2))).set l (.st (.d d3))) n1)
    (h1 : swapsWithSole [.Tuple [.Name z p, .Name y p2, .Name w p4] kk p3] e pos.line C.X.env = pure false) (h2 : swappedStores [.Tuple [.Name z p, .Name y p2, .Name w p4] kk p3] e C.X.env = pure none) :
    SX C τ n (.Assign [.Tuple [.Name z p, .Name y p2, .Name w p4] kk p3] e pos) D := by
  intro σ G H Dc A k
  have hs3 : (assignEach [.Name w p4] C.X.env).map (·.2) = assign (.Name w p4) C.X.env :: (assignEach [] C.X.env).map (·.2) := by rfl
  have hs2 : (assignEach [.Name y p2, .Name w p4] C.X.env).map (·.2) = assign (.Name y p2) C.X.env :: (assignEach [.Name w p4] C.X.env).map (·.2) := by rfl
  have hs : (assignEach [.Name z p, .Name y p2, .Name w p4] C.X.env).map (·.2) = assign (.Name z p) C.X.env :: (assignEach [.Name y p2, .Name w p4] C.X.env).map (·.2) := by rfl
  refine rs_of (ps_asg pe_re (pg_lst (n := 3) hc (pgs_cons (pg_name nd hz.hN hz.hl hz.hf) (pgs_cons (pg_name nd hy.hN hy.hl hy.hf) (pgs_cons (pg_name nd hw.hN hw.hl hw.hf) pgs_nil hs3) hs2) hs) rfl rfl) h1 h2 rfl) ?_
  refine h [] σ G H _ A fun v x G1 H1 τ1 n1 A1 e1 r1 ⟨d1, d2, d3, ex, q⟩ => ?_
  subst ex
  obtain ⟨a, ys, rfl, hl, dd⟩ := r1.list
  cases dd with
  | @cons v1 _ _ _ a1 dd =>
    cases dd with
    | @cons v2 _ _ _ a2 dd =>
      cases dd with
      | @cons v3 _ _ _ a3 dd =>
        cases dd
        refine ⟨a, _, rfl, SqL.of (A1.gh _ _ hl), rfl, v1, _, rfl, v2, _, rfl, v3, _, rfl, rfl, ?_⟩
        exact k.nx _ G1 _ _ n1 (((A1.put i (x := .d d1) a1).put j (x := .d d2) a2).put l (x := .d d3) a3) e1 q
theorem peq_b {x y : Bool} (h : Q (aB (x == y)) τ n) : PEq Q (aB x) (aB y) τ n := by
  refine .inr ⟨_, _, rfl, rfl, ?_, ?_, ?_⟩
  · cases x <;> rfl
  · cases y <;> rfl
  · have e : (PyData.eqv (.bool x) (.bool y)) = (x == y) := by cases x <;> cases y <;> simp [PyData.eqv]
    rw [e]; exact h
end
theorem tg_tup3g {X : Cx} {i j l : Nat} {z y w : Str} {p p2 p3 p4 : Pos} {kk : Nat} (hc : X.calm = true) (nd : X.N.Nodup) (h : Lm X i z) (h2 : Lm X j y) (h3 : Lm X l w) :
    Tg X (.Tuple [.Name z p, .Name y p2, .Name w p4] kk p3) [i, j, l] (fun d => ∃ d1 d2 d3, d = .tuple [d1, d2, d3]) (fun d τ => ((τ.set i (.st (.d (prj d 0)))).set j (.st (.d (prj d 1)))).set l (.st (.d (prj d 2)))) := tg_tup3 hc nd h h2 h3
theorem vis_rel {inner sc : Scope} {x : Str} (h : inner.names.lookup x = some .free) : L2.Vis (relS inner sc) x := by
  have key : ∀ l : List (Str × NameKind), l.lookup x = some .free →
      (l.map fun (n, k) => if (k == .free && sc.kind == .function && sc.names.lookup n == some .cell) then (n, NameKind.cell) else (n, k)).lookup x = some .cell ∨
      (l.map fun (n, k) => if (k == .free && sc.kind == .function && sc.names.lookup n == some .cell) then (n, NameKind.cell) else (n, k)).lookup x = some .free := by
    intro l
    induction l with
    | nil => intro h; cases h
    | cons p r ih =>
      obtain ⟨n, k⟩ := p
      intro h
      rw [List.lookup_cons] at h
      simp only [List.map_cons]
      by_cases e : (x == n) = true
      · simp only [e] at h
        have hk : k = .free := Option.some.inj h
        subst hk
        by_cases hh : (NameKind.free == NameKind.free && sc.kind == .function && sc.names.lookup n == some .cell) = true
        · rw [if_pos hh, List.lookup_cons]
          simp [e]
        · rw [if_neg hh, List.lookup_cons]
          simp [e]
      · have e' : (x == n) = false := by simpa using e
        simp only [e'] at h
        by_cases hh : (k == NameKind.free && sc.kind == .function && sc.names.lookup n == some .cell) = true
        · rw [if_pos hh, List.lookup_cons]
          simp only [e']
          exact ih h
        · rw [if_neg hh, List.lookup_cons]
          simp only [e']
          exact ih h
  exact .inr (key _ h)
end M

set_option Elab.async false
set_option linter.all false
set_option maxRecDepth 100000
set_option maxHeartbeats 4000000
namespace M
open PySem PySem.Spec PyProof.Rows L2
/-! sorted() of lists of lists of ints -/
def leL (a b : List Int) : Bool := PySem.W.dataLe false (fun ns : List Int => dL ns) a b
def srt (nss : List (List Int)) : List (List Int) := nss.mergeSort leL
theorem leL_tot : PySem.W.TotalLe leL := PySem.W.sortLe_total (PyProof.Rows.listOrd PyProof.Rows.itemOrd) false (fun ns : List Int => PySem.W.keyToks (dL ns))
theorem toks_inj : ∀ {a b : List Int}, PySem.W.keyToksAll (dints a) = PySem.W.keyToksAll (dints b) → a = b
  | [], [], _ => rfl
  | [], y :: b, h => by simp [PySem.W.keyToksAll] at h
  | x :: a, [], h => by simp [PySem.W.keyToksAll] at h
  | x :: a, y :: b, h => by
    simp only [List.map_cons, PySem.W.keyToksAll, PySem.W.keyToks, List.cons_append, List.nil_append, List.cons.injEq, Sum.inl.injEq] at h
    rw [h.2.1, toks_inj h.2.2]
theorem leL_anti {a b : List Int} (h1 : leL a b = true) (h2 : leL b a = true) : a = b := by
  unfold leL PySem.W.dataLe PySem.W.sortLe at h1 h2
  simp only [cond_false, Bool.not_eq_true'] at h1 h2
  have := (PyProof.Rows.listOrd PyProof.Rows.itemOrd).total _ _ h2 h1
  simp only [PySem.W.keyToks] at this
  exact toks_inj this
theorem srt_perm (nss : List (List Int)) : (srt nss).Perm nss := List.mergeSort_perm _ _
theorem srt_eq {nss mss : List (List Int)} (h : nss.Perm mss) : srt nss = srt mss :=
  List.Perm.eq_of_pairwise (le := fun a b => leL a b = true) (fun _ _ _ _ a b => leL_anti a b) (PySem.W.sort_pairwise leL_tot _) (PySem.W.sort_pairwise leL_tot _) (((srt_perm nss).trans h).trans (srt_perm mss).symm)
theorem alike_ints : ∀ a b : List Int, PySem.W.alikeAll (dints a) (dints b) = true
  | [], _ => by simp [PySem.W.alikeAll]
  | _ :: _, [] => by simp [PySem.W.alikeAll]
  | x :: a, y :: b => by
    have h := alike_ints a b
    simp only [List.map_cons, PySem.W.alikeAll, PySem.W.alike, Bool.true_and]
    exact h
theorem dpA_len {K : PySem.W.Frag} {H : Hp} : ∀ {vs : List V} {ds : List PyData}, DpAll K H vs ds → vs.length = ds.length
  | _, _, .nil => rfl
  | _, _, .cons _ h => by simp [dpA_len h]
theorem dpA_zip {K : PySem.W.Frag} {H : Hp} : ∀ {vs : List V} {nss : List (List Int)}, DpAll K H vs (nss.map dL) → ∀ p ∈ vs.zip nss, Dp K H p.1 (dL p.2)
  | [], _, _, p, hp => by simp at hp
  | v :: vs, [], h, p, hp => by simp at hp
  | v :: vs, n :: nss, h, p, hp => by
    cases h with
    | cons h1 h2 =>
      rcases List.mem_cons.mp hp with rfl | hp
      · exact h1
      · exact dpA_zip h2 p hp
theorem each_zip {vs : List V} {us : List Value} {nss : List (List Int)} (r : Vals vs us) (hl : vs.length = nss.length) : PySem.W.EachIs (fun (v : Value) (b : V × List Int) => RelV b.1 v ∧ b ∈ vs.zip nss) us (vs.zip nss) := by
  have key : ∀ {vs : List V} {us : List Value} {nss : List (List Int)} {Z : List (V × List Int)}, Vals vs us → vs.length = nss.length → (∀ p ∈ vs.zip nss, p ∈ Z) → PySem.W.EachIs (fun (v : Value) (b : V × List Int) => RelV b.1 v ∧ b ∈ Z) us (vs.zip nss) := by
    intro vs us nss Z r
    induction r generalizing nss with
    | nil => intro _ _; exact .nil
    | cons r1 r2 ih =>
      intro hl hz
      cases nss with
      | nil => simp at hl
      | cons n nss => exact .cons ⟨r1, hz _ (by simp)⟩ (ih (by simpa using hl) fun p hp => hz p (by simp [hp]))
  exact key r hl fun p hp => hp
theorem vals_each : ∀ {us : List Value} {bs : List (V × List Int)} {Z : List (V × List Int)}, PySem.W.EachIs (fun (v : Value) (b : V × List Int) => RelV b.1 v ∧ b ∈ Z) us bs → Vals (bs.map Prod.fst) us
  | _, _, _, .nil => .nil
  | _, _, _, .cons h t => .cons h.1 (vals_each t)
section
variable {X : Cx}
def rSrtLL (K : PySem.W.Frag) : List V → Hp → VK → Prop := fun vs H Q => ∃ (a : Addr) (ys : List V) (nss : List (List Int)), vs = [V.ref a] ∧ SqL K H a ys ∧ DpAll K H ys (nss.map dL) ∧
  ∀ (ys' : List V) (p : Addr), ys'.length = (srt nss).length → (∀ b ∈ ys'.zip (srt nss), b ∈ ys.zip nss) → H p = none → Q (.ref p) (upd H p (.lst ys'))
theorem cr_srtLL (hu : X.A.units + 64 < cLine) : CallR X (.builtin "sorted") (rSrtLL X.K) := by
  intro pins s σ H vs us Q I r h
  obtain ⟨a, ys, nss, rfl, hs, hd, q⟩ := h
  obtain ⟨its, rv, hl, hz⟩ := I.list hs
  rw [Vals.ref1 r]
  have hlen : ys.length = nss.length := by rw [dpA_len hd, List.length_map]
  have hbl : (ys.zip nss).length = its.length := by rw [List.length_zip, ← rv.length]; omega
  have e := each_zip rv hlen
  have er : PySem.W.EachIs (fun (v : Value) (b : V × List Int) => ∃ as, Reads s.heap v (dL b.2) as) its (ys.zip nss) := e.mono fun v b hb => Dp.reads I _ _ _ (dpA_zip hd b hb.2) hb.1
  refine PySem.W.sorted_data hl.isList e (enc := fun b : V × List Int => dL b.2) er ?_ ?_ (by rw [hbl, ← rv.length]; exact hz) ?_ fun out h1 h2 => ?_
  · intro d hd1 d' hd2
    obtain ⟨b, _, rfl⟩ := List.mem_map.mp hd1
    obtain ⟨b', _, rfl⟩ := List.mem_map.mp hd2
    simp only [PySem.W.alike]
    exact alike_ints _ _
  · refine .inr fun d hd1 => ?_
    obtain ⟨b, _, rfl⟩ := List.mem_map.mp hd1
    exact ⟨by simp, by simp⟩
  · intro b _
    have : PyData.depth (dL b.2) = 1 := by simp only [PyData.depth]; rw [dep_ints]
    rw [this]
    omega
  · obtain ⟨ep, hep⟩ := PyProof.Rows.sortedAll_at s.heap its out.toArray
    have hsm : ((ys.zip nss).mergeSort (PySem.W.dataLe false fun b : V × List Int => dL b.2)).map Prod.snd = srt nss := by
      have e1 := PySem.W.sort_maps (r := PySem.W.dataLe false fun b : V × List Int => dL b.2) (s := leL) Prod.snd (l := ys.zip nss) fun _ _ _ _ => rfl
      rw [e1, List.map_snd_zip (by omega)]
      rfl
    have hpm : ((ys.zip nss).mergeSort (PySem.W.dataLe false fun b : V × List Int => dL b.2)).Perm (ys.zip nss) := List.mergeSort_perm _ _
    generalize hB : (ys.zip nss).mergeSort (PySem.W.dataLe false fun b : V × List Int => dL b.2) = B at *
    have hv := vals_each h2
    have hBl : B.length ≤ sizeLine := by rw [hpm.length_eq, hbl, ← rv.length]; exact hz
    have hn : H (s.heap.objs.size + 1) = none := I.hok.fresh (Nat.le_succ _)
    refine ⟨.ref _, upd H (s.heap.objs.size + 1) (.lst (B.map Prod.fst)), I.laid (t' := s.toks) (fun _ _ => PyProof.Rows.sortedAll_old) (Nat.le_succ _)
      ⟨by rw [List.length_map]; exact hBl, out, ep, hv, hep⟩, rfl, q _ _ ?_ ?_ hn⟩
    · rw [← hsm, List.length_map, List.length_map]
    · rw [← hsm]
      intro b hb
      have : (B.map Prod.fst).zip (B.map Prod.snd) = B := by
        rw [List.zip_map', List.map_id']
      rw [this] at hb
      exact hpm.mem_iff.mp hb
end
end M

namespace M
open PySem PySem.Spec PyProof.Rows L2
section
variable {C : Cn} {τ : List Sl} {n : Nat} {e a b c : Expr} {es : List Expr} {pos : Pos} {Q : Av → List Sl → Nat → Prop} {QT : Bool → List Sl → Nat → Prop} {xs : List Av}
theorem dta_of {K : PySem.W.Frag} : ∀ {G : Hp} {ys : List V} {nss : List (List Int)}, ys.length = nss.length → (∀ p ∈ ys.zip nss, Dt K G p.1 (dL p.2)) → DtAll K G ys (nss.map dL)
  | _, [], [], _, _ => .nil
  | _, [], _ :: _, h, _ => by simp at h
  | _, _ :: _, [], h, _ => by simp at h
  | G, y :: ys, n :: nss, h, q => .cons (q (y, n) (by simp)) (dta_of (by simpa using h) fun p hp => q p (by simp [hp]))
theorem dta_zip {K : PySem.W.Frag} : ∀ {G : Hp} {ys : List V} {nss : List (List Int)}, DtAll K G ys (nss.map dL) → ∀ p ∈ ys.zip nss, Dt K G p.1 (dL p.2)
  | _, [], _, _, p, hp => by simp at hp
  | _, _ :: _, [], _, p, hp => by simp at hp
  | _, y :: ys, n :: nss, h, p, hp => by
    cases h with
    | cons h1 h2 =>
      rcases List.mem_cons.mp hp with rfl | hp
      · exact h1
      · exact dta_zip h2 p hp
theorem rc_srtLL (h : ∃ nss, xs = [.d (dLL nss)] ∧ Q (.d (dLL (srt nss))) τ n) : RC C (rSrtLL C.X.K) xs τ n Q := by
  intro pv σ G H R vs A rv k
  obtain ⟨nss, rfl, q⟩ := h
  obtain ⟨v, rfl, r1⟩ := rvAll1 rv
  obtain ⟨m, ys, rfl, h1, d1⟩ := r1.list
  refine ⟨m, ys, nss, rfl, SqL.of (A.gh _ _ h1), dtAll_dp A.gh _ _ d1, fun ys' p hl hz hn => ?_⟩
  have ex : Ex G (upd G p (.lst ys')) := Ex.new (A.freshG hn)
  have d2 : DtAll C.X.K G ys' ((srt nss).map dL) := dta_of hl fun b hb => dta_zip d1 b (hz b hb)
  exact k _ _ _ _ τ n (A.new hn) ex (rv_lst upd_same (dpAll_ex ex _ _ d2)) q
theorem ex_srtLL {k : Nat} {p : Pos} (hr : Room k C.X.A) (hz : Bl C.X "sorted") (h : EA C τ n (e :: es) fun xs τ1 n1 => ∃ nss, xs = [.d (dLL nss)] ∧ Q (.d (dLL (srt nss))) τ1 n1)
    (he : starEach (e :: es) C.X.env = (false, eval e C.X.env) :: starEach es C.X.env := by rfl) (hpl : (backTo pos (starEach es C.X.env)).any (·.1) = false := by rfl) : EX C τ n (.Call (.Name "sorted" p) (e :: es) [] pos) Q :=
  ex_callB (id := "sorted") (cr_srtLL (by have := hr.un; omega)) hz boot_sorted1 (fun pv σ G H R A kk => h pv σ G H R A fun vs xs G' H' τ' n' A' e' r q => kk vs xs G' H' τ' n' A' e' r (rc_srtLL q)) (by decide) (by decide) he hpl
/-! a list in a list of lists -/
theorem any_LL (ns : List Int) : ∀ nss : List (List Int), ((nss.map dL).any fun z => PyData.eqv z (dL ns)) = decide (ns ∈ nss)
  | [] => by simp
  | m :: nss => by
    have h := any_LL ns nss
    rw [List.map_cons, List.any_cons, h, eqv_dL]
    by_cases h1 : m = ns
    · simp [h1]
    · have h2 : ¬ ns = m := fun z => h1 z.symm
      simp [h1, h2]
theorem rr_inLL {x y : Av} (h : ∃ ns nss, x = aL ns ∧ y = .d (dLL nss) ∧ Q (aB (decide (ns ∈ nss))) τ n) : RR C (rInD C.X.K) x y τ n Q := by
  intro pv σ G H R v u A rx ry k
  obtain ⟨ns, nss, rfl, rfl, q⟩ := h
  refine ⟨dL ns, nss.map dL, dt_dp A.gh _ _ rx, dt_dp A.gh _ _ ry, shaped_dL _, shaped_LL _, ?_⟩
  rw [any_LL]
  exact k _ _ G H τ n A (Ex.refl _) (rv_bool _) q
theorem ex_inLL {k : Nat} (hr : Room k C.X.A) (hm : behindInMarks .In b = false) (h : EX C τ n a fun x τ1 n1 => EX C τ1 n1 b fun y τ2 n2 => ∃ ns nss, x = aL ns ∧ y = .d (dLL nss) ∧ Q (aB (decide (ns ∈ nss))) τ2 n2) : EX C τ n (.Compare a [.In] [b] pos) Q :=
  ex_cmp (op_inD (by have := hr.un; omega)) hm (h.imp fun _ _ _ h1 => h1.imp fun _ _ _ h2 => rr_inLL h2)
/-! calls inside a comprehension -/
theorem cl_blk {s : Shared} {H : Hp} {scope : Scope} {cE : Addr} {cl : List (Str × Addr)} {fp : List Addr} {z : Str} {asp : ASp} (c : Cl C z asp) (g : Gl (C.blk s H scope cE cl fp).X z) : Cl (C.blk s H scope cE cl fp) z asp := by
  obtain ⟨j, k, F, hr, hj, _, hd⟩ := c
  exact ⟨j, k, F, hr, hj, g, hd⟩
theorem clF_blk {s : Shared} {H : Hp} {scope : Scope} {cE : Addr} {cl : List (Str × Addr)} {fp : List Addr} {z : Str} {asp : ASpF} (c : ClF C z asp) (g : Gl (C.blk s H scope cE cl fp).X z) : ClF (C.blk s H scope cE cl fp) z asp := by
  obtain ⟨j, k, F, hr, hj, _, hd⟩ := c
  exact ⟨j, k, F, hr, hj, g, hd⟩
end
end M

set_option Elab.async false
set_option linter.all false
set_option maxRecDepth 100000
set_option maxHeartbeats 4000000
namespace M
open PySem PySem.Spec PyProof.Rows L2
def nums (m : Nat) : List Int := (List.range m).map fun i : Nat => (i : Int)
section
variable {C : Cn} {τ : List Sl} {n : Nat} {a : Expr} {Q : Av → List Sl → Nat → Prop}
theorem ex_listRg1 {p p2 pos qos : Pos} (hc : C.X.calm = true) (hl : Bl C.X "list") (hz : Bl C.X "range") (h : EX C τ n a fun x τ1 n1 => ∃ m : Nat, x = aI m ∧ m ≤ 100000 ∧ Q (aL (nums m)) τ1 n1)
    (na : starEach [a] C.X.env = (false, eval a C.X.env) :: starEach [] C.X.env := by rfl) (nb : starEach [.Call (.Name "range" p2) [a] [] qos] C.X.env = (false, eval (.Call (.Name "range" p2) [a] [] qos) C.X.env) :: starEach [] C.X.env := by rfl) :
    EX C τ n (.Call (.Name "list" p) [.Call (.Name "range" p2) [a] [] qos] [] pos) Q := by
  intro pv σ G H R A k
  refine re_of (pe_listRg hc hl.hg hl.hm (prg_1 hz.hg hz.hm pe_re na) nb) ?_
  refine h pv σ G H _ A fun v x G1 H1 τ1 n1 A1 e1 r1 ⟨m, ex, hm, q⟩ => ?_
  subst ex
  refine ⟨m, r1.int, RgOk.of_le (by omega) (by omega) (by omega) (by omega), fun q0 hq => ?_⟩
  have e2 : rgV 0 (m : Int) = (nums m).map V.int := by
    unfold rgV nums
    rw [List.map_map, show ((m : Int) - 0).toNat = m by omega]
    apply List.map_congr_left
    intro i _
    simp
  rw [e2]
  have ex : Ex G1 (upd G1 q0 (.lst ((nums m).map V.int))) := Ex.new (A1.freshG hq)
  exact k _ _ _ _ τ1 n1 (A1.new hq) (e1.trans ex) (rv_lst upd_same (dpAll_ints (nums m))) q
end
end M

set_option Elab.async false
set_option linter.all false
set_option maxRecDepth 100000
set_option maxHeartbeats 4000000
namespace M
open PySem PySem.Spec PyProof.Rows L2
/-! len(set(xs)) of whole numbers, some perhaps told again -/
def dist (ns : List Int) : Nat := (firstMet (fun i => ns.getD i 0) ns.length).length
theorem met_take {ns : List Int} (nd : ns.Nodup) : ∀ i, i ≤ ns.length → firstMet (fun i => ns.getD i 0) i = ns.take i := L2.firstMet_nodup ns nd
theorem dist_nd {ns : List Int} (nd : ns.Nodup) : dist ns = ns.length := by
  unfold dist
  rw [met_take nd _ (Nat.le_refl _), List.take_length]
theorem met_len (f : Nat → Int) : ∀ i, (firstMet f i).length = i → ∀ j k, j < k → k < i → f j ≠ f k
  | 0, _, j, k, _, hk => absurd hk (by omega)
  | i + 1, h, j, k, hj, hk => by
    rw [firstMet_succ] at h
    have hle := firstMet_length_le f i
    unfold step_dedup at h
    by_cases hm : (firstMet f i).any (· == f i) = true
    · rw [if_pos hm] at h
      omega
    · rw [if_neg hm, List.length_append] at h
      have h' : (firstMet f i).length = i := by simpa using h
      by_cases hki : k = i
      · subst hki
        intro e
        apply hm
        rw [firstMet_any]
        exact List.any_eq_true.mpr ⟨f j, List.mem_map.mpr ⟨j, List.mem_range.mpr hj, rfl⟩, by simp [e]⟩
      · exact met_len f i h' j k hj (by omega)
theorem dist_iff (ns : List Int) : decide (((dist ns : Nat) : Int) = ((ns.length : Nat) : Int)) = decide ns.Nodup := by
  by_cases nd : ns.Nodup
  · rw [decide_eq_true nd, decide_eq_true (by rw [dist_nd nd])]
  · rw [decide_eq_false nd, decide_eq_false]
    intro e
    have e' : dist ns = ns.length := by omega
    apply nd
    rw [List.nodup_iff_pairwise_ne, List.pairwise_iff_getElem]
    intro j k hj hk hjk
    have := met_len _ ns.length e' j k hjk hk
    simpa [List.getD, hj, hk] using this
section
variable {X : Cx}
theorem pe_lenSetD {a : Expr} {ta : TE} {p p2 q pos : Pos} (hc : X.calm = true) (hl : Gl X "len") (hl2 : X.mg "len" = none) (hs : Gl X "set") (hs2 : X.mg "set" = none) (ha : PE X a ta)
    (na : starEach [a] X.env = (false, eval a X.env) :: starEach [] X.env) : PE X (.Call (.Name "len" p) [.Call (.Name "set" p2) [a] [] q] [] pos)
      (fun σ H Z => ta σ H fun x H1 => ∃ (l : Addr) (ns : List Int), x = V.ref l ∧ SqL X.K H1 l (ns.map V.int) ∧ ns.length < 64 ∧ Z (.int (dist ns)) H1) := by
  refine ⟨fun pn s σ H Z I hh => Call_ (ld_blt I hl hl2 PySem.boot_len ?_)⟩
  refine (PyProof.Rows.callWith_builtin1 (PyProof.Rows.args_cons (Call_ (ld_blt I hs hs2 PyProof.Rows.boot_set ?_)) rfl) rfl rfl)
  refine (PyProof.Rows.callWith_type1 (PyProof.Rows.args_cons (thn (ha.run pn s σ H _ I hh) fun v s1 ⟨x, H1, I1, r1, zz⟩ => PyProof.Rows.args_nil ?_) na) na rfl)
  obtain ⟨l, ns, rfl, hq, h64, zz⟩ := zz; cases r1
  obtain ⟨its, r, pl, hz⟩ := I1.list hq
  have hil : its.toArray.size = ns.length := by rw [List.size_toArray, ← r.length, List.length_map]
  refine call_set_list (I1.ok.hd hc) pl.isList (ns := ns) (by simpa using r.ints) (by unfold scanBound; omega) fun h2 tk hS hkeep => PyProof.Rows.args_nil ?_
  rw [hil] at hS
  obtain ⟨o, es, ep, t, ho, hex, hd, _, _, _, hf, hn⟩ := hS
  have hle := firstMet_length_le (fun i => ns.getD i 0) ns.length
  have I2 : Inv X pn σ H1 { s1 with heap := h2, toks := tk } := I1.kept fun b o e => hkeep b o (Heap.lt_size e) e
  exact call_len_set ho hex hd hf (by rw [hn]; omega) ⟨.int (dist ns), H1, I2.tok _, ⟨_, by rw [hn]; rfl⟩, zz⟩
end
section
variable {C : Cn} {τ : List Sl} {n : Nat} {a e : Expr} {pos : Pos} {Q : Av → List Sl → Nat → Prop} {D : AE}
theorem ex_lenSetD {p p2 q : Pos} (hz : Bl C.X "len") (hz2 : Bl C.X "set") (hc : C.X.calm = true) (h : EX C τ n a fun x τ1 n1 => ∃ ns : List Int, x = aL ns ∧ ns.length < 64 ∧ Q (aI (dist ns)) τ1 n1)
    (na : starEach [a] C.X.env = (false, eval a C.X.env) :: starEach [] C.X.env := by rfl) : EX C τ n (.Call (.Name "len" p) [.Call (.Name "set" p2) [a] [] q] [] pos) Q := by
  intro pv σ G H R A k
  refine re_of (pe_lenSetD hc hz.hg hz.hm hz2.hg hz2.hm pe_re na) ?_
  refine h pv σ G H _ A fun v x G1 H1 τ1 n1 A1 e1 r1 ⟨ns, ex, hl, q⟩ => ?_
  subst ex
  obtain ⟨l, ys, rfl, hl1, d1⟩ := r1.list
  rw [dpa_ints d1] at hl1
  exact ⟨l, ns, rfl, SqL.of (A1.gh _ _ hl1), hl, k _ _ G1 H1 τ1 n1 A1 e1 (rv_int _) q⟩
theorem ex_tupleL {p : Pos} (hz : Bl C.X "tuple") (h : EX C τ n a fun x τ1 n1 => ∃ ds, x = .d (.list ds) ∧ Q (.d (.tuple ds)) τ1 n1)
    (na : starEach [a] C.X.env = (false, eval a C.X.env) :: starEach [] C.X.env := by rfl) : EX C τ n (.Call (.Name "tuple" p) [a] [] pos) Q := by
  intro pv σ G H R A k
  refine re_of (pe_tupleOf hz.hg hz.hm pe_re na) ?_
  refine h pv σ G H _ A fun v x G1 H1 τ1 n1 A1 e1 r1 ⟨ds, ex, q⟩ => ?_
  subst ex
  obtain ⟨l, ys, rfl, hl1, d1⟩ := r1.list
  refine .inl ⟨l, ys, rfl, SqL.of (A1.gh _ _ hl1), fun q0 hq => ?_⟩
  have ex : Ex G1 (upd G1 q0 (.tup ys)) := Ex.new (A1.freshG hq)
  exact k _ _ _ _ τ1 n1 (A1.new hq) (e1.trans ex) (rv_tup (SqT.of upd_same) (dpAll_ex ex _ _ d1)) q
theorem pne_sameD {d : PyData} (hs : SeqAt.shaped d = true) (h : Q (aB (!true)) τ n) : PNe Q (.d d) (.d d) τ n := .inr ⟨d, d, rfl, rfl, hs, hs, by rw [PySem.SeqAt.eqv_refl d (SeqAt.canLay_of_shaped hs)]; exact h⟩
end
end M

set_option Elab.async false
set_option linter.all false
set_option maxRecDepth 100000
set_option maxHeartbeats 4000000
namespace M
open PySem PySem.Spec PyProof.Rows L2
/-! ### defs and the law where no text of a list is being made around them -/
structure FnOkG (P : Program) (w : World) (K : PySem.W.Frag) (mg : Str → Option Value) (bs : Heap) (cx : CXT) (k : Nat) (f : Addr) (fd : FuncData) (ps : List Str) (sp : Sp) : Prop where
  len : ∀ vs H Q E, sp vs H Q E → vs.length = ps.length
  run : ∀ (A : Around) (out : List Env) (s : Shared) (H : Hp) (as : Args) (us : List Value) (vs : List V) (Q : VK) (E : XK), A.guards = some [] → Room k A → Env0 P w K mg bs A out s H → BindsTo s fd as (ps.zip us) → Vals vs us → sp vs H Q E →
    codeAny (model P w) A (.call (.ref f) as) (CR cx out P w H s Q E) s
theorem FnOkG.of {P w K mg bs cx k f fd ps sp} (F : FnOk P w K mg bs cx k f fd ps sp) : FnOkG P w K mg bs cx k f fd ps sp := ⟨F.len, fun A out s H as us vs Q E _ => F.run A out s H as us vs Q E⟩
/-- a def's promise from its body's -/
theorem fnG_of {cx : CXT} {P : Program} {w : World} {K : PySem.W.Frag} {mg : Str → Option Value} {bs : Heap} {k : Nat} {f : Addr} {nm ql : Str} {ar : Arguments} {body : List Stmt} {sc : Scope} {d1 d2 d3 d4 cv ct oc : Value} {an od : Option Addr}
    {osl : Array (Option Value)} {N ps : List Str} {sp : Sp} (lk : K.lookup f = some ⟨oc, od, .func (PySem.W.fnOf nm ql ar body sc d1 d2 d3 d4 an cv ct), osl⟩) (hc : PySem.W.codeIn K cv ql = true) (S : FnScope N ps sc)
    (len : ∀ vs H Q E, sp vs H Q E → vs.length = ps.length)
    (hb : ∀ (A : Around) (out : List Env) (s : Shared) (H : Hp) (vs : List V) (Q : VK) (E : XK), A.guards = some [] → Room k (A.deeper (envOfC ql sc s.heap.objs.size f cv)) → sp vs H Q E →
      ∃ t, PSs (cxOf cx P w K mg bs N ql sc f cv A out s H E) body t ∧ t { nx := fun _ H' => Q .non H', rt := Q } (L2.start N vs) H) :
    FnOkG P w K mg bs cx (k + 1) f (PySem.W.fnOf nm ql ar body sc d1 d2 d3 d4 an cv ct) ps sp := by
  constructor
  · exact len
  intro A out s H as us vs Q E gd room en bd rv hsp
  have hl : vs.length = ps.length := len vs H Q E hsp
  have inK : K.In s.heap := en.mod.kin.keeps fun b o e => (en.bs b o e).1
  have noL : s.heap.NoLimit := en.mod.nolimit.keeps fun b o e => (en.bs b o e).1
  refine codeAny_call_function room.depth (inK _ _ lk) rfl S.co S.gen rfl (PySem.W.codeRec_of inK hc) (bd _ _ _ _ ?_)
  refine wpAny_newFunctionEnv_cells S.kind ?_ ?_
  · rintro ⟨y, u⟩ hy
    have hy1 := S.par y (List.of_mem_zip hy).1
    exact hy1.imp id fun q => ⟨q, PySem.W.cellsFrom_some _ _ _ (.inl q)⟩
  · intro env he s1 x
    subst he
    refine ⟨noL.keeps x.toInCall.keep, codeAny_func ?_⟩
    obtain ⟨t, ht, hq⟩ := hb A out s H vs Q E gd (room.deeper _) hsp
    have I := inv_start (CX := cx) (P := P) (w := w) (K := K) (mg := mg) (base := bs) (E := E) S room.hd en hl rv x
    refine wpAny_mono (ht.run [] s1 (L2.start N vs) H _ I hq) ?_ (fun e s' z => z)
    intro fl s' z
    cases fl with
    | ret u => obtain ⟨v, σ', H', J, r, q⟩ := z; exact ⟨v, H', J.os, J.bare, J.base, J.hok, r, q⟩
    | next => obtain ⟨σ', H', J, q⟩ := z; exact ⟨V.non, H', J.os, J.bare, J.base, J.hok, rfl, q⟩
    | brk => obtain ⟨_, _, _, q⟩ := z; exact q.elim
    | cont => obtain ⟨_, _, _, q⟩ := z; exact q.elim
/-! the end: the law is called from the claim's caller, where the list of guards is empty -/
def lawHp (K : PySem.W.Frag) (ts : List Addr) (a : Addr) (u : Obj) (xs : List V) : Hp := fun b => if b ∈ ts then some (.tbl #[]) else if b = a ∧ K.lookup a = none then some (.frz u (.lst xs)) else none
theorem lawHp_t {K ts a u xs b} (h : b ∈ ts) : lawHp K ts a u xs b = some (.tbl #[]) := if_pos h
theorem lawHp_cases {K ts a u xs b o} (h : lawHp K ts a u xs b = some o) : (b ∈ ts ∧ o = .tbl #[]) ∨ (b = a ∧ b ∉ ts ∧ K.lookup a = none ∧ o = .frz u (.lst xs)) := by
  unfold lawHp at h
  split at h
  · rename_i hb; exact .inl ⟨hb, (Option.some.inj h).symm⟩
  · rename_i hb
    split at h
    · rename_i h2; exact .inr ⟨h2.1, hb, h2.2, (Option.some.inj h).symm⟩
    · cases h
section
variable {P : Program} {w : World} {K : PySem.W.Frag} {mg mb : Str → Option Value} {cx : CXT} {k : Nat} {fa a : Addr} {ts : List (Addr × Addr)} {fd : FuncData} {x : Str} {sp : Sp} {s1 : Shared} {us : List Value} {ns : List Int}
abbrev tabO : Obj := { cls := .none, data := .fields #[] }
abbrev lstO (us : List Value) : Obj := { cls := .type "list", data := .seq us.toArray }
theorem lawG (kx : K.In s1.heap) (hm : s1.heap.Ns mainGlobals mg) (hb : s1.heap.Ns builtinsNs mb) (hbb : ∀ x : Str, x ≠ "__name__" → mb x = bootBuiltins x) (nl : s1.heap.NoLimit) (hg : s1.gens = #[])
    (ht : ∀ p ∈ ts, s1.heap.get? p.2 = some tabO) (nt : ∀ p ∈ ts, K.lookup p.2 = none) (hc : ∀ p ∈ ts, PySem.W.CodeHd s1.heap p.1 p.2)
    (bm : ∃ (bm : Addr) (ob : Obj), mg "__builtins__" = some (.ref bm) ∧ bm ≠ builtinsNs ∧ s1.heap.get? bm = some ob ∧ ob.cls = .type "module" ∧ ob.dict = some builtinsNs ∧ ob.data = .plain)
    (ha : s1.heap.get? a = some (lstO us)) (hi : IntsAre us ns) (hl : ns.length ≤ sizeLine) (room : Room k callerA)
    (F : ∀ bs : Heap, K.In bs → bs.Ns mainGlobals mg → (∀ p ∈ ts, LamX.TabB bs mg p.1 p.2) → FnOkG P w K mg bs cx k fa fd [x] sp) (hbd : ∀ (s : Shared) (u : Value), BindsTo s fd ⟨[u], []⟩ [(x, u)])
    (hsp : ∀ H : Hp, (∀ p ∈ ts, H p.2 = some (.tbl #[])) → SqL K H a (ns.map V.int) → sp [.ref a] H (fun v _ => v = .bl true) fun _ _ _ => False)
    (hcx : ∀ H e s', cx [] H s1 (fun _ _ _ => False) e s' → False) :
    codeAny (model P w) callerA (.call (.ref fa) ⟨[.ref a], []⟩) (fun r s' => r = .ok (.ret (.bool true)) ∧ OldK s1.heap s'.heap ∧ s'.os = s1.os ∧ AllBare s'.gens) s1 := by
  have vI := vals_ints hi
  have uL : us.length = ns.length := hi.length
  let tt := ts.map (·.2)
  let H := lawHp K tt a (lstO us) (ns.map V.int)
  have in_t : ∀ p ∈ ts, p.2 ∈ tt := fun p hp => List.mem_map_of_mem hp
  have t_of : ∀ b ∈ tt, ∃ p ∈ ts, p.2 = b := fun b hb => List.mem_map.mp hb
  have at_t : ∀ b ∈ tt, s1.heap.get? b = some tabO := fun b hb => by obtain ⟨p, hp, e⟩ := t_of b hb; rw [← e]; exact ht p hp
  have a_t : a ∉ tt := fun z => by have e := (at_t a z).symm.trans ha; exact nomatch congrArg Obj.data (Option.some.inj e)
  have hH : ∀ p ∈ ts, H p.2 = some (.tbl #[]) := fun p hp => lawHp_t (in_t p hp)
  have hok : HOk P w H s1.heap := by
    intro b o e
    rcases lawHp_cases e with ⟨h1, rfl⟩ | ⟨rfl, _, _, rfl⟩
    · exact at_t b h1
    · exact ⟨ha, by rw [List.length_map]; exact hl, us, _, vI, ha⟩
  have hS : SqL K H a (ns.map V.int) := by
    cases e : K.lookup a with
    | none => exact .inl (.inr ⟨lstO us, by show lawHp _ _ _ _ _ _ = _; unfold lawHp; rw [if_neg a_t, if_pos ⟨rfl, e⟩]⟩)
    | some o =>
      have z := kx a o e
      rw [ha] at z
      cases z
      exact .inr ⟨lstO us, us.toArray, _, e, rfl, rfl, rfl, by simpa [uL] using hl, by simpa using vI⟩
  -- what is neither a list nor a table isn't tracked
  have off : ∀ {b : Addr} {o : Obj}, s1.heap.get? b = some o → (∀ v n, o.data ≠ .seq v n) → o.data ≠ .fields #[] → H b = none := by
    intro b o e n1 n2
    cases q : H b with
    | none => rfl
    | some u =>
      rcases lawHp_cases q with ⟨h1, _⟩ | ⟨rfl, _⟩
      · rw [at_t b h1] at e; cases e; exact (n2 rfl).elim
      · rw [ha] at e; cases e; exact (n1 _ _ rfl).elim
  have ns' : ∀ {b : Addr} {m : Str → Option Value}, s1.heap.Ns b m → (hidT s1.heap H).Ns b m := by
    rintro b m ⟨o, es, ep, e, d, r⟩
    exact ⟨o, es, ep, hidT_get e (off e (by rw [d]; intro _ _ z; cases z) (by rw [d]; intro z; cases z)), d, r⟩
  have kin : K.In (hidT s1.heap H) := by
    intro b o e
    refine hidT_get (kx b o e) ?_
    cases q : H b with
    | none => rfl
    | some u =>
      rcases lawHp_cases q with ⟨h1, _⟩ | ⟨rfl, _, n3, _⟩
      · obtain ⟨p, hp, ep⟩ := t_of b h1
        rw [← ep, nt p hp] at e; cases e
      · rw [n3] at e; cases e
  have md : L2.Mod K mg (hidT s1.heap H) := by
    obtain ⟨mc, l1, l2⟩ := nl
    exact ⟨kin, ns' hm, ⟨mb, ns' hb, hbb⟩, mc, ns' l1, l2⟩
  have tb : ∀ p ∈ ts, LamX.TabB (hidT s1.heap H) mg p.1 p.2 := by
    intro p hp
    obtain ⟨og, eg, pg, hog, dg, _⟩ := id hm
    constructor
    · obtain ⟨o, vs, fl, tf, fs, tg, inF, tx, ty, e1, r1, r2, r3, rest⟩ := hc p hp
      refine ⟨o, vs, fl, tf, fs, tg, inF, tx, ty, hidT_get e1 (off e1 (by rw [r2]; intro _ _ z; cases z) fun z => ?_), r1, r2, r3, rest⟩
      rw [r2] at z; cases z; exact nomatch r3
    · obtain ⟨m, ob, b1, b2, b3, b4, b5, b6⟩ := bm
      refine ⟨m, ob, b1, b2, fun z => ?_, fun z => ?_, hidT_get b3 (off b3 (by rw [b6]; intro _ _ z; cases z) (by rw [b6]; intro z; cases z)), b4, b5, b6⟩
      · rw [z, hog] at b3; cases b3; rw [dg] at b6; cases b6
      · rw [z, ht p hp] at b3; cases b3; cases b6
    · intro z
      rw [z, ht p hp] at hog; cases hog; cases dg
  have en : Env0 P w K mg (hidT s1.heap H) callerA [] s1 H := by
    refine ⟨rfl, md, fun b o e => of_hidT e, Nat.le_of_eq (hidT_size _ _), trivial, ?_, hok, .of_eq hg⟩
    intro b hb; exact absurd (show b ∈ ([] : List Addr) from hb) List.not_mem_nil
  refine codeAny_mono ((F _ kin (ns' hm) tb).run callerA [] s1 H ⟨[.ref a], []⟩ [.ref a] [.ref a] _ _ rfl room en (hbd s1 (.ref a)) (.cons rfl .nil) (hsp H hH hS)) ?_
  intro r s' z
  match r, z with
  | .error e, z => exact (hcx H e s' z).elim
  | .ok .next, z => exact False.elim z
  | .ok .brk, z => exact False.elim z
  | .ok .cont, z => exact False.elim z
  | .ok (.ret u), ⟨v, H', os, bare, un, hok', rel, (q : v = .bl true)⟩ =>
    subst q
    obtain rfl : u = Value.bool true := rel
    have kept : ∀ b o, b ∉ tt → s1.heap.get? b = some o → s'.heap.get? b = some o := by
      intro b o nb e
      cases q : H b with
      | none => exact un.keep b o e q (fun z => absurd (show b ∈ ([] : List Addr) from z) List.not_mem_nil) List.not_mem_nil
      | some h =>
        rcases lawHp_cases q with ⟨h1, _⟩ | ⟨rfl, _, _, rfl⟩
        · exact absurd h1 nb
        · obtain ⟨y1, _⟩ := hok b _ q
          obtain ⟨y2, _⟩ := hok' b _ (un.frzs b _ _ q)
          rw [e] at y1; cases y1; exact y2
    have longer : ∀ p ∈ ts, ∃ m : Array Value, s'.heap.get? p.2 = some { cls := .none, data := .fields m } := by
      intro p hp
      obtain ⟨m, z⟩ := un.tbls p.2 #[] (hH p hp)
      exact ⟨_, hok' _ _ z⟩
    refine ⟨rfl, ⟨?_, ?_⟩, os, bare⟩
    · intro b o e
      by_cases hb : b ∈ tt
      · obtain ⟨p, hp, rfl⟩ := t_of b hb
        obtain ⟨m, z⟩ := longer p hp
        rw [ht p hp] at e; cases e
        exact .inr (.inl ⟨((hc p hp).tab (ht p hp)).isCodeTable, rfl, #[], m, rfl, by rw [Array.empty_append]; exact z⟩)
      · exact .inl (kept b o hb e)
    · intro b o e
      by_cases hb : b ∈ tt
      · obtain ⟨p, hp, rfl⟩ := t_of b hb
        obtain ⟨m, z⟩ := longer p hp
        exact ⟨_, z⟩
      · exact ⟨o, kept b o hb e⟩
end
/-- what is known of such a law's promise at the head's end -/
def LawAtG (l : PySem.W.OpenLaw) (w : World) (K : PySem.W.Frag) (cx : CXT) (k n : Nat) (x : Str) (mg : Str → Option Value) (fa : Addr) (h : Heap) : Prop :=
  ∃ (fd : FuncData) (ts : List (Addr × Addr)) (sp : Sp), (∀ p ∈ ts, h.get? p.2 = some tabO) ∧ (∀ p ∈ ts, K.lookup p.2 = none) ∧ (∀ p ∈ ts, PySem.W.CodeHd h p.1 p.2) ∧ (∀ (s : Shared) (u : Value), BindsTo s fd ⟨[u], []⟩ [(x, u)]) ∧
    (∀ (H : Hp) (a : Addr) (ns : List Int), ns.length ≤ n → (∀ z ∈ ns, Builtin.Int.intBits z ≤ 1048576) → (∀ p ∈ ts, H p.2 = some (.tbl #[])) → SqL K H a (ns.map V.int) → sp [.ref a] H (fun v _ => v = .bl true) fun _ _ _ => False) ∧
    ∀ bs : Heap, K.In bs → bs.Ns mainGlobals mg → (∀ p ∈ ts, LamX.TabB bs mg p.1 p.2) → FnOkG l.prog w K mg bs cx k fa fd [x] sp
theorem walkG {l : PySem.W.OpenLaw} {n k : Nat} {q : Program} {loose : List Str} {XP : (Str → Option Value) → Heap → Prop} {YP : World → Heap → Prop} {d : DefRec} {cx : World → CXT} {x : Str}
    (h1 : l.most = some n) (h2 : n ≤ sizeLine) (h3 : d.params.defaults = []) (h4 : Room k callerA)
    (F : ∀ (w : World) (mg : Str → Option Value) (fa : Addr) (h : Heap), YP w h → h.Ns mainGlobals mg → mg d.name = some (.ref fa) → ∃ K : PySem.W.Frag, K.In h ∧ LawAtG l w K (cx w) k n x mg fa h)
    (h5 : ∀ (w : World) (H : Hp) (s : Shared) (e : Value) (s' : Shared), cx w [] H s (fun _ _ _ => False) e s' → False) :
    PySem.W.WalkO q loose XP YP l.row.toRowW d [] (fun f vs => PySem.call f vs) := by
  refine Att.attach_callB h1 h3 ?_
  intro w s0 s1 mg mb fa o pm cd doc a us ns G Y ho hd hcd hmg hobj hints hlen hbits hg
  obtain ⟨K, kx, fd, ts, sp, ht, nt, hc, hb, hsp, hF⟩ := F w mg fa _ Y G.T.g hmg
  exact lawG kx G.T.g G.T.b G.T.builtins G.T.nolimit hg ht nt hc G.T.bmain hobj hints (Nat.le_trans hlen h2) h4 hF hb (fun H hH hS => hsp H a ns hlen hbits hH hS) fun H e s' => h5 w H s1 e s'
end M

set_option Elab.async false
set_option linter.all false
set_option maxRecDepth 100000
set_option maxHeartbeats 4000000
namespace M
open PySem PySem.Spec PyProof.Rows L2
/-! ### str(x) of data, where no text of a list is being made around -/
theorem call_strD {X : Cx} (hg : X.A.guards = some []) (hu : X.A.units + 64 < cLine) : CallR X (.type "str") fun vs H Q => ∃ a d, vs = [.ref a] ∧ Dp X.K H (.ref a) d ∧ d.showable = true ∧ d.hasDict = false ∧ d.depth ≤ 50 ∧ d.shown.length ≤ sizeLine ∧ Q (.str d.shown) H := by
  rintro pins s σ H xs us Q I rv ⟨a, d, rfl, hd, h1, h2, h3, h4, q⟩
  cases rv with
  | cons r t =>
    cases t
    obtain rfl := show _ = Value.ref a from r
    obtain ⟨as, R⟩ := Dp.reads I d _ _ hd rfl
    exact str_of_reads R h1 (PyData.noDict_hsm h2) hg (by omega) (fun _ _ e => e) (fun h' u tk hk => ⟨.str d.shown, H, I.kept hk, ⟨u, rfl⟩, q⟩) h4
theorem boot_str1 : bootBuiltins ("str" : Str) = some (.type "str") := by first | rfl | decide +kernel

/-! how long such texts are -/
theorem textFrom_up : ∀ (ts : List Str) (k : Nat) (acc : Str), (textFrom k acc ts).length ≤ acc.length + piled ts
  | [], k, acc => Nat.le_add_right _ _
  | t :: r, k, acc => by
    have h := textFrom_up r (k + 1) (acc ++ (if k > 0 then ", " else "" : String) ++ t)
    have e : (acc ++ (if k > 0 then ", " else "" : String) ++ t).length ≤ acc.length + 2 + t.length := by
      rw [strLen_append, strLen_append]
      have : (Str.ofString (if k > 0 then ", " else "" : String)).length ≤ 2 := by split <;> decide
      omega
    have e2 : piled (t :: r) = t.length + 2 + piled r := by unfold piled; simp
    show (textFrom (k + 1) _ r).length ≤ _
    omega
theorem join_up : ∀ ts : List Str, (Str.join ", " ts).length ≤ piled ts
  | [] => Nat.zero_le _
  | [t] => by
    have e2 : piled [t] = t.length + 2 := by unfold piled; simp
    show t.length ≤ _
    omega
  | t :: u :: r => by
    have h := join_up (u :: r)
    have e2 : piled (t :: u :: r) = t.length + 2 + piled (u :: r) := by unfold piled; simp
    show (t ++ ", " ++ Str.join ", " (u :: r)).length ≤ _
    rw [strLen_append, strLen_append]
    have : (Str.ofString ", ").length = 2 := by decide
    omega
mutual
def okS : PyData → Prop
  | .none | .bool _ => True
  | .str _ => False
  | .int i => i.natAbs < 10 ^ 100
  | .list xs | .tuple xs => okSs xs
  | .dict _ => False
def okSs : List PyData → Prop
  | [] => True
  | x :: xs => okS x ∧ okSs xs
end
mutual
def wS : PyData → Nat
  | .none | .bool _ | .str _ | .dict _ => 5
  | .int _ => 101
  | .list xs | .tuple xs => wSs xs + 4
def wSs : List PyData → Nat
  | [] => 0
  | x :: xs => wS x + 2 + wSs xs
end
theorem big10 : (10 : Nat) ^ 100 < 2 ^ 1920 := by decide +kernel
mutual
theorem okS_all : ∀ d : PyData, okS d → d.showable = true ∧ d.hasDict = false ∧ d.shown.length ≤ wS d
  | .none, _ => ⟨rfl, rfl, by show _ ≤ 5; decide⟩
  | .bool b, _ => by cases b <;> exact ⟨rfl, rfl, by show _ ≤ 5; decide⟩
  | .int i, h => by
    have h : i.natAbs < 10 ^ 100 := h
    refine ⟨?_, rfl, ?_⟩
    · show decide (i.natAbs.log2 < 1920) = true
      refine decide_eq_true ?_
      by_cases z : i.natAbs = 0
      · rw [z]; decide
      · exact (Nat.log2_lt z).mpr (Nat.lt_trans h big10)
    · have := int_text_length_le10 (k := 100) (by decide) h
      show (Str.ofString (toString i)).length ≤ 101
      rw [PySem.ofString_length]; exact this
  | .str x, h => h.elim
  | .dict x, h => h.elim
  | .list xs, h => by
    obtain ⟨h1, h2, h3⟩ := okSs_all xs h
    refine ⟨h1, h2, ?_⟩
    show (textFrom 0 "[" (PyData.shownAll xs) ++ "]").length ≤ wSs xs + 4
    rw [strLen_append]
    have := textFrom_up (PyData.shownAll xs) 0 "["
    have e1 : (Str.ofString "[").length = 1 := by decide
    have e2 : (Str.ofString "]").length = 1 := by decide
    omega
  | .tuple xs, h => by
    obtain ⟨h1, h2, h3⟩ := okSs_all xs h
    refine ⟨h1, h2, ?_⟩
    show (tupleText (PyData.shownAll xs)).length ≤ wSs xs + 4
    unfold tupleText
    rw [strLen_append, strLen_append]
    have := join_up (PyData.shownAll xs)
    have e1 : (Str.ofString "(").length = 1 := by decide
    have e2 : (Str.ofString (if (PyData.shownAll xs).length == 1 then ",)" else ")" : String)).length ≤ 2 := by split <;> decide
    omega
theorem okSs_all : ∀ ds : List PyData, okSs ds → PyData.showableAll ds = true ∧ PyData.hasDictAll ds = false ∧ piled (PyData.shownAll ds) ≤ wSs ds
  | [], _ => ⟨rfl, rfl, Nat.le_refl _⟩
  | d :: ds, h => by
    obtain ⟨a1, a2, a3⟩ := okS_all d h.1
    obtain ⟨b1, b2, b3⟩ := okSs_all ds h.2
    refine ⟨by show (d.showable && PyData.showableAll ds) = true; rw [a1, b1]; rfl, by show (d.hasDict || PyData.hasDictAll ds) = false; rw [a2, b2]; rfl, ?_⟩
    show piled (d.shown :: PyData.shownAll ds) ≤ wS d + 2 + wSs ds
    have e2 : piled (d.shown :: PyData.shownAll ds) = d.shown.length + 2 + piled (PyData.shownAll ds) := by unfold piled; simp
    omega
end
theorem okSs_map {α : Type} {f : α → PyData} {xs : List α} (h : ∀ x ∈ xs, okS (f x)) : okSs (xs.map f) := by
  induction xs with
  | nil => exact trivial
  | cons x xs ih => exact ⟨h x List.mem_cons_self, ih fun y hy => h y (List.mem_cons_of_mem _ hy)⟩
theorem wSs_map {α : Type} {f : α → PyData} {xs : List α} {m : Nat} (h : ∀ x ∈ xs, wS (f x) ≤ m) : wSs (xs.map f) ≤ xs.length * (m + 2) := by
  induction xs with
  | nil => exact Nat.zero_le _
  | cons x xs ih =>
    have := ih fun y hy => h y (List.mem_cons_of_mem _ hy)
    have h1 := h x List.mem_cons_self
    show wS (f x) + 2 + wSs (xs.map f) ≤ (xs.length + 1) * (m + 2)
    rw [Nat.succ_mul]; omega
theorem depthAll_map {α : Type} {f : α → PyData} {xs : List α} {m : Nat} (h : ∀ x ∈ xs, (f x).depth ≤ m) : PyData.depthAll (xs.map f) ≤ m := by
  induction xs with
  | nil => exact Nat.zero_le _
  | cons x xs ih => exact Nat.max_le.mpr ⟨h x List.mem_cons_self, ih fun y hy => h y (List.mem_cons_of_mem _ hy)⟩
section
variable {C : Cn} {τ : List Sl} {n : Nat} {e : Expr} {pos : Pos} {Q : Av → List Sl → Nat → Prop} {k : Nat}
/-- what can be told as a text here -/
structure Shw (d : PyData) : Prop where
  ok : okS d
  dp : d.depth ≤ 50
  ln : wS d ≤ sizeLine
theorem ex_strD {p : Pos} (hz : Bl C.X "str") (hg : C.X.A.guards = some []) (hr : Room k C.X.A) (h : EX C τ n e fun x τ1 n1 => ∃ ds, x = .d (.list ds) ∧ Shw (.list ds) ∧ Q (.d (.str (PyData.list ds).shown)) τ1 n1)
    (he : starEach [e] C.X.env = (false, eval e C.X.env) :: starEach [] C.X.env := by rfl) (hpl : (backTo pos (starEach [] C.X.env)).any (·.1) = false := by rfl) :
    EX C τ n (.Call (.Name "str" p) [e] [] pos) Q := by
  refine ex_callT (call_strD hg hr.units) hz boot_str1 (ea_cons (h.imp fun x τ1 n1 ⟨ds, ex, S, q⟩ => ea_nil ?_) he) (he := he) (hpl := hpl)
  subst ex
  intro pv σ G H R vs A rv kk
  obtain ⟨v, rfl, r⟩ := rvAll1 rv
  obtain ⟨a, xs, rfl, h1, d1⟩ := r.list
  obtain ⟨s1, s2, s3⟩ := okS_all _ S.ok
  exact ⟨a, _, rfl, dt_dp (fun b o e => (A.gr.sta b o e).2) _ _ r, s1, s2, S.dp, Nat.le_trans s3 S.ln, kk _ _ G H τ1 n1 A (Ex.refl _) (rv_str _) q⟩
end
end M

set_option Elab.async false
set_option linter.all false
set_option maxRecDepth 100000
set_option maxHeartbeats 4000000
namespace M
open PySem PySem.Spec PyProof.Rows L2
/-! ### comprehensions of one name, by what each turn gives -/
def blkB (N : List Str) (sc scope : Scope) (own : List (Str × Nat)) : Bool :=
  decide (scope.kind = .function) && (scope.names.all fun y => decide (scope.names.lookup y.1 = some y.2)) && (own.all fun p => decide (N[p.2]? = some p.1)) &&
  (scope.names.all fun y => (y.2 != .free) || (sc.names.lookup y.1 == some .cell) || (sc.names.lookup y.1 == some .free)) &&
  (scope.names.all fun y => !((y.2 == .local) || (y.2 == .cell)) || (own.map (·.1)).contains y.1 || !(N.contains y.1))
theorem blk_dec {N : List Str} {sc scope : Scope} {own : List (Str × Nat)} (h : blkB N sc scope own = true) : BlkOk N sc scope own := by
  unfold blkB at h
  simp only [Bool.and_eq_true, List.all_eq_true, decide_eq_true_eq, Bool.or_eq_true, bne_iff_ne, beq_iff_eq, Bool.not_eq_true', List.contains_iff_mem] at h
  obtain ⟨⟨⟨⟨h1, h2⟩, h3⟩, h4⟩, h5⟩ := h
  refine ⟨h1, h2, h3, fun y hy e => ?_, fun y hy e => ?_⟩
  · rcases h4 y hy with (z | z) | z
    · exact absurd e z
    · exact .inl z
    · exact .inr z
  · rcases h5 y hy with (z | z) | z
    · rcases e with e | e <;> rw [e] at z <;> exact absurd z (by decide)
    · exact .inl (by simpa using z)
    · right
      intro hm
      rw [List.contains_eq_mem] at z
      simp [hm] at z
theorem blk_of {C : Cn} {N : List Str} {sc scope : Scope} {own : List (Str × Nat)} (hN : C.X.N = N) (hS : C.X.env.scope = sc) (h : blkB N sc scope own = true) : BlkOk C.X.N C.X.env.scope scope own := by
  rw [hN, hS]; exact blk_dec h
theorem As.unpriv {W : Wo} {G0 H0 : Hp} {pv : Pv} {σ : L2.St} {G H : Hp} {τ : List Sl} {n : Nat} {p : Addr} {o : HO} (A : As W G0 H0 ((p, o) :: pv) σ G H τ n) (nd : ∀ q ∈ pv, q.1 ≠ p) : As W G0 H0 pv σ G (rem H p) τ n ∧ rem H p p = none ∧ H = upd (rem H p) p o := by
  obtain ⟨h1, h2, h3, h4, h5⟩ := A.pr (p, o) List.mem_cons_self
  have ne : ∀ b, b ≠ p → rem H p b = H b := fun b z => if_neg z
  refine ⟨⟨⟨A.gr.ex, fun a q e => ⟨(A.gr.sta a q e).1, ?_⟩, fun a q ua e => ?_, fun a e => ?_⟩, A.wi.of_eq fun a ha => ne a fun z => h3 (z ▸ ha), A.len, A.st, fun i ds e => ?_, A.sep, fun q hq => ?_⟩, if_pos rfl, ?_⟩
  · rw [ne a (fun z => by rw [z, h2] at e; cases e)]; exact (A.gr.sta a q e).2
  · rw [ne a (fun z => by rw [z, h4] at e; cases e)]; exact A.gr.fr a q ua e
  · exact A.gr.nw a e
  · obtain ⟨a, xs, e1, e2, r, e3, u2, e4⟩ := A.ow i ds e
    exact ⟨a, xs, e1, by rw [ne a (fun z => h5 i ds e (by rw [e1, z]))]; exact e2, r, e3, u2, e4⟩
  · obtain ⟨e1, e2, e3, e4, e5⟩ := A.pr q (List.mem_cons_of_mem _ hq)
    exact ⟨by rw [ne _ (nd q hq)]; exact e1, e2, e3, e4, e5⟩
  · funext b
    by_cases z : b = p
    · subst z; rw [upd_same]; exact h1
    · rw [upd_ne z, ne b z]
abbrev KF (C : Cn) (pv : Pv) (σ : L2.St) (G : Hp) (QF : List PyData → List Sl → Nat → Prop) (R : VK) : Prop := ∀ p vs ds G' H' τ' n', C.As pv σ G' H' τ' n' → Ex G G' → H' p = none → DtAll C.X.K G' vs ds → QF ds τ' n' → R (.ref p) (upd H' p (.lst vs))
section
variable {C : Cn} {τ : List Sl} {n : Nat} {Q : Av → List Sl → Nat → Prop}
theorem lc_runF {QF : List PyData → List Sl → Nat → Prop} {tg iter elt : Expr} {ifs : List Expr} {scope : Scope} {vs : List Nat} {Ok : PyData → Prop} {set : PyData → List Sl → List Sl} (hset : SetOk vs set)
    (ht : ∀ (s : Shared) (H : Hp) (cE : Addr) (cl : List (Str × Addr)) (fp : List Addr), Tg (C.X.blk s H scope (compEnvC scope cl cE C.X.env) fp) tg vs Ok set)
    {pv : Pv} {σ : L2.St} {G H : Hp} {R : VK} (A : C.As pv σ G H τ n) (h : EI C τ n tg iter fun ds τ1 n1 => LcP C scope vs ifs elt Ok set (fun x τ2 n2 => ∃ acc, x = .d (.list acc) ∧ QF acc τ2 n2) ds τ1 n1) (k : KF C pv σ G QF R) :
    tLc (RI C.X tg iter) (fun v σ H Q => ∀ s Hb cE cl fp, RG (C.X.blk s Hb scope (compEnvC scope cl cE C.X.env) fp) tg v σ H Q) (fun σ H Q => ∀ s Hb cE cl fp, RTs (C.X.blk s Hb scope (compEnvC scope cl cE C.X.env) fp) ifs σ H Q)
      (fun σ H Q => ∀ s Hb cE cl fp, RE (C.X.blk s Hb scope (compEnvC scope cl cE C.X.env) fp) elt σ H Q) vs σ H R := by
  refine h pv σ G H _ A fun J ds G1 H1 τ1 n1 A1 e1 sq ⟨hz, hno, I, i0, turn, fin⟩ Dl hD => ?_
  have nd := A1.privNe hD
  have keepO : ∀ (j : Nat) es, τ1[j]? = some (.ow es) → j ∉ vs := fun j es q hj => hno j hj es q
  refine ⟨fun i m H' => m = ds.length - i ∧ i ≤ ds.length ∧ ∃ G' acc n2 av, C.As ((Dl, .lst av) :: pv) σ G' H' τ1 n2 ∧ DtAll C.X.K G' av acc ∧ Ex G1 G' ∧ I i acc n2 ∧ acc.length ≤ i, ⟨ds.length, by simp, Nat.zero_le _, G1, [], n1, [], A1.priv hD, .nil, Ex.refl _, i0, Nat.le_refl _⟩, ?_⟩
  rintro i m H2 ⟨rfl, hi, G2, acc, n2, av, A2, da, e2, i2, hacc⟩
  by_cases hlt : i < ds.length
  · have hd : ds[i]? = some ds[i] := List.getElem?_eq_getElem hlt
    obtain ⟨go, yld⟩ := sq.go _ σ G2 H2 τ1 n2 i _ A2 e2 hd
    refine .inr ⟨go, fun H' => ∃ G' acc n2 av, C.As ((Dl, .lst av) :: pv) σ G' H' τ1 n2 ∧ DtAll C.X.K G' av acc ∧ Ex G1 G' ∧ I (i + 1) acc n2 ∧ acc.length ≤ i + 1, fun H' z => ⟨ds.length - (i + 1), by omega, rfl, hlt, z⟩, fun v H3 y => ?_⟩
    obtain ⟨G3, A3, e3, r3⟩ := yld v H3 y
    have A3w := A3.wipe vs
    intro s Hb cE cl fp
    obtain ⟨okd, body⟩ := turn s Hb cE cl fp i _ acc n2 hd i2
    refine (ht s Hb cE cl fp).run C.WK C.G0 C.H0 _ (wipe σ vs) G3 H3 (wipeS τ1 vs) n2 v _ _ rfl A3w r3 okd fun σ4 A4 hw hk => ⟨?_, ?_⟩
    · rw [hw]
      show wipe (wipe σ vs) vs = wipe σ vs
      exact wipe_wipe σ vs
    intro s' Hb' cE' cl' fp'
    obtain ⟨_, body⟩ := turn s' Hb' cE' cl' fp' i _ acc n2 hd i2
    have A4' : (C.blk s' Hb' scope cE' cl' fp').As ((Dl, .lst av) :: pv) σ4 G3 H3 (set ds[i] (wipeS τ1 vs)) n2 := A4
    have back : ∀ {G5 H5 : Hp} {n5 : Nat}, C.As ((Dl, .lst av) :: pv) σ4 G5 H5 (set ds[i] (wipeS τ1 vs)) n5 → Ex G3 G5 → C.As ((Dl, .lst av) :: pv) σ G5 H5 τ1 n5 := fun {G5 H5 n5} A5 e5 =>
      A3.rewind A5 e5 fun j es q => by
        have hj := keepO j es q
        refine ⟨?_, ?_⟩
        · rw [hset _ _ _ hj, wipeS_ne hj]; exact q
        · rw [hk j hj, wipe_ne hj]
    refine ets_run body A4' fun bb G5 H5 τ5 n5 A5 e5 q5 => ?_
    cases bb with
    | true =>
      refine iteT ?_
      intro s6 Hb6 cE6 cl6 fp6
      have q6 := q5.1 rfl s6 Hb6 cE6 cl6 fp6
      refine q6 _ σ4 G5 H5 _ A5 fun u y G6 H6 τ6 n6 A6 e6 r6 ⟨et, z, ey, i6⟩ => ?_
      subst et ey
      have A7 := back A6 (e5.trans e6)
      obtain ⟨hDl, _⟩ := A7.pr (Dl, .lst av) List.mem_cons_self
      have ee : Ex G2 G6 := (e3.trans e5).trans e6
      refine ⟨av, hDl, ?_, G6, acc ++ [z], n6, av ++ [u], A7.privSet nd, dpa_app (dpAll_ex ee _ _ da) (.cons r6 .nil), e2.trans ee, i6, ?_⟩
      · rw [dpa_len da]; omega
      · rw [List.length_append]; simp; omega
    | false =>
      refine iteF ?_
      obtain ⟨et, i5⟩ := q5.2 rfl
      subst et
      exact ⟨G5, acc, n5, av, back A5 e5, dpAll_ex (e3.trans e5) _ _ da, (e2.trans e3).trans e5, i5, Nat.le_succ_of_le hacc⟩
  · have hi' : i = ds.length := by omega
    subst hi'
    refine .inl ⟨sq.stop _ σ G2 H2 τ1 n2 _ A2 e2 (Nat.le_refl _), ?_⟩
    obtain ⟨A3, hn, he⟩ := A2.unpriv nd
    obtain ⟨acc', eacc, q⟩ := fin acc n2 i2
    cases eacc
    rw [he]
    exact k _ _ _ G2 _ τ1 n2 A3 (e1.trans e2) hn da q
end
/-- a def that is called inside a comprehension alone -/
def ClN (C : Cn) (z : Str) (asp : ASp) : Prop := ∃ j k, FnG C.X.prog C.X.w C.X.K C.X.mg C.X.base C.W z k asp ∧ Room j C.X.A ∧ k ≤ j ∧ (z == ("__debug__" : Str)) = false
def ClFN (C : Cn) (z : Str) (asp : ASpF) : Prop := ∃ j k, FnGF C.X.prog C.X.w C.X.K C.X.mg C.X.base C.W z k asp ∧ Room j C.X.A ∧ k ≤ j ∧ (z == ("__debug__" : Str)) = false
theorem Cl.toN {C : Cn} {z : Str} {asp : ASp} (c : Cl C z asp) : ClN C z asp := let ⟨j, k, F, hr, hj, _, hd⟩ := c; ⟨j, k, F, hr, hj, hd⟩
theorem ClF.toN {C : Cn} {z : Str} {asp : ASpF} (c : ClF C z asp) : ClFN C z asp := let ⟨j, k, F, hr, hj, _, hd⟩ := c; ⟨j, k, F, hr, hj, hd⟩
theorem clN_blk {C : Cn} {s : Shared} {H : Hp} {scope : Scope} {cE : Addr} {cl : List (Str × Addr)} {fp : List Addr} {z : Str} {asp : ASp} (c : ClN C z asp) (g : Gl (C.blk s H scope cE cl fp).X z) : Cl (C.blk s H scope cE cl fp) z asp := let ⟨j, k, F, hr, hj, hd⟩ := c; ⟨j, k, F, hr, hj, g, hd⟩
theorem clFN_blk {C : Cn} {s : Shared} {H : Hp} {scope : Scope} {cE : Addr} {cl : List (Str × Addr)} {fp : List Addr} {z : Str} {asp : ASpF} (c : ClFN C z asp) (g : Gl (C.blk s H scope cE cl fp).X z) : ClF (C.blk s H scope cE cl fp) z asp := let ⟨j, k, F, hr, hj, hd⟩ := c; ⟨j, k, F, hr, hj, g, hd⟩
section
variable {C : Cn} {τ : List Sl} {n : Nat} {e a b c : Expr} {pos : Pos} {Q : Av → List Sl → Nat → Prop} {D : AE}
theorem nm_blk2 {s : Shared} {H : Hp} {scope : Scope} {cE : Addr} {cl : List (Str × Addr)} {fp : List Addr} {x : Str} {i : Nat} (h : Nm C.X i x) (hv : Vis (relS scope C.X.env.scope) x) : Nm (C.blk s H scope cE cl fp).X i x := ⟨h.hN, hv, h.hd, h.hc⟩
abbrev Ix (C : Cn) (i : Nat) (x : Str) : Prop := C.X.N[i]? = some x
/-- all turns pure: elements by f, those with p -/
abbrev TurnsM (C : Cn) (scope : Scope) (i : Nat) (elt : Expr) (ds : List PyData) (τ1 : List Sl) (n1 : Nat) (f : PyData → PyData) : Prop :=
  ∀ d ∈ ds, ∀ s H cE cl fp, EX (C.blk s H scope cE cl fp) ((τ1.set i .no).set i (.st (.d d))) n1 elt fun y τ4 n4 => τ4 = (τ1.set i .no).set i (.st (.d d)) ∧ n4 = n1 ∧ y = .d (f d)
abbrev TurnsF (C : Cn) (scope : Scope) (i : Nat) (c elt : Expr) (ds : List PyData) (τ1 : List Sl) (n1 : Nat) (p : PyData → Bool) (f : PyData → PyData) : Prop :=
  ∀ d ∈ ds, ∀ s H cE cl fp, ET (C.blk s H scope cE cl fp) ((τ1.set i .no).set i (.st (.d d))) n1 c fun v τ3 n3 => τ3 = (τ1.set i .no).set i (.st (.d d)) ∧ n3 = n1 ∧ v = p d ∧
    (v = true → ∀ s H cE cl fp, EX (C.blk s H scope cE cl fp) ((τ1.set i .no).set i (.st (.d d))) n1 elt fun y τ4 n4 => τ4 = (τ1.set i .no).set i (.st (.d d)) ∧ n4 = n1 ∧ y = .d (f d))
theorem lcP_map {scope : Scope} {i : Nat} {elt : Expr} {ds : List PyData} {τ1 : List Sl} {n1 : Nat} (hz : ds.length < sizeLine) (hno : ∀ es, τ1[i]? ≠ some (.ow es)) (f : PyData → PyData) (h : TurnsM C scope i elt ds τ1 n1 f)
    (q : Q (.d (.list (ds.map f))) τ1 n1) : LcP C scope [i] [] elt (fun _ => True) (fun d τ => τ.set i (.st (.d d))) Q ds τ1 n1 := by
  refine ⟨hz, fun j hj => by have : j = i := by simpa using hj
                             subst this; exact hno, fun k acc n2 => acc = (ds.take k).map f ∧ n2 = n1, ⟨rfl, rfl⟩, fun s H cE cl fp k d acc n2 hd ⟨ea, en⟩ => ⟨trivial, ?_⟩, fun acc n2 ⟨ea, en⟩ => ?_⟩
  · subst ea en
    refine ⟨fun _ s H cE cl fp => (h d (List.mem_of_getElem? hd) s H cE cl fp).imp fun y τ4 n4 ⟨q1, q2, q3⟩ => ⟨q1, f d, q3, ?_, q2⟩, fun z => nomatch z⟩
    rw [List.take_add_one, hd]; simp
  · subst ea en
    rw [List.take_length]; exact q
theorem lcP_filter {scope : Scope} {i : Nat} {c elt : Expr} {ds : List PyData} {τ1 : List Sl} {n1 : Nat} (hz : ds.length < sizeLine) (hno : ∀ es, τ1[i]? ≠ some (.ow es)) (p : PyData → Bool) (f : PyData → PyData) (h : TurnsF C scope i c elt ds τ1 n1 p f)
    (q : Q (.d (.list ((ds.filter p).map f))) τ1 n1) : LcP C scope [i] [c] elt (fun _ => True) (fun d τ => τ.set i (.st (.d d))) Q ds τ1 n1 := by
  refine ⟨hz, fun j hj => by have : j = i := by simpa using hj
                             subst this; exact hno, fun k acc n2 => acc = ((ds.take k).filter p).map f ∧ n2 = n1, ⟨rfl, rfl⟩, fun s H cE cl fp k d acc n2 hd ⟨ea, en⟩ => ⟨trivial, ?_⟩, fun acc n2 ⟨ea, en⟩ => ?_⟩
  · subst ea en
    have et : ds.take (k + 1) = ds.take k ++ [d] := by rw [List.take_add_one, hd]; rfl
    refine (h d (List.mem_of_getElem? hd) s H cE cl fp).imp fun v τ3 n3 ⟨q1, q2, q3, q4⟩ => ⟨fun hv s H cE cl fp => ?_, fun hv => ⟨q1, ?_, q2⟩⟩
    · subst q1 q2
      refine (q4 hv s H cE cl fp).imp fun y τ4 n4 ⟨r1, r2, r3⟩ => ⟨r1, f d, r3, ?_, r2⟩
      rw [et, List.filter_append, List.map_append]
      have : p d = true := by rw [← q3]; exact hv
      simp [this]
    · rw [et, List.filter_append, List.map_append]
      have : p d = false := by rw [← q3]; exact hv
      simp [this]
  · subst ea en
    rw [List.take_length]; exact q
theorem ex_lc1 {i : Nat} {z : Str} {p : Pos} {iter elt : Expr} {ifs : List Expr} {scope : Scope} (hc : C.X.calm = true) (nd : C.X.N.Nodup) (hi : C.X.N[i]? = some z) (ok : BlkOk C.X.N C.X.env.scope scope [(z, i)])
    (h : EI C τ n (.Name z p) iter fun ds τ1 n1 => LcP C scope [i] ifs elt (fun _ => True) (fun d τ => τ.set i (.st (.d d))) Q ds τ1 n1)
    (hv : ∀ sc, Loc (relS scope sc) z ∧ (relS scope sc).names.lookup z = some .local) (hl : ifs.length ≤ 1) (hs : ∀ x, foldedSetIterable iter C.X.env x = pure x := by intro _; rfl) :
    EX C τ n (.ListComp elt [⟨.Name z p, iter, ifs, 0⟩] scope pos) Q :=
  ex_lc (own := [(z, i)]) hc nd hl ok setOk_name (fun s H cE cl fp => tg_name nd ⟨hi, (hv _).1, .inr (hv _).2⟩) h hs
theorem sx_asgLc1 {j i : Nat} {z y : Str} {p py spos : Pos} {iter elt : Expr} {ifs : List Expr} {scope : Scope} (hc : C.X.calm = true) (nd : C.X.N.Nodup) (hy : C.X.N[j]? = some y) (hyl : C.X.env.scope.names.lookup y = some .local)
    (hsw : swapsWith (.ListComp elt [⟨.Name z p, iter, ifs, 0⟩] scope pos) (some (.Name y py)) spos.line C.X.env = pure true) (hi : C.X.N[i]? = some z) (ok : BlkOk C.X.N C.X.env.scope scope [(z, i)])
    (h : EI C τ n (.Name z p) iter fun ds τ1 n1 => LcP C scope [i] ifs elt (fun _ => True) (fun d τ => τ.set i (.st (.d d))) (fun x τ2 n2 => D.nx (τ2.set j (.st x)) n2) ds τ1 n1)
    (hv : ∀ sc, Loc (relS scope sc) z ∧ (relS scope sc).names.lookup z = some .local) (hl : ifs.length ≤ 1) (hs : ∀ x, foldedSetIterable iter C.X.env x = pure x := by intro _; rfl) :
    SX C τ n (.Assign [.Name y py] (.ListComp elt [⟨.Name z p, iter, ifs, 0⟩] scope pos) spos) D :=
  sx_asgLc (own := [(z, i)]) hc nd hl hy hyl hsw ok setOk_name (fun s H cE cl fp => tg_name nd ⟨hi, (hv _).1, .inr (hv _).2⟩) h hs
variable {QF : List PyData → List Sl → Nat → Prop}
/-- such a list as a fresh one -/
theorem ef_lc1 {i : Nat} {z : Str} {p : Pos} {iter elt : Expr} {ifs : List Expr} {scope : Scope} (hc : C.X.calm = true) (nd : C.X.N.Nodup) (hi : C.X.N[i]? = some z) (ok : BlkOk C.X.N C.X.env.scope scope [(z, i)])
    (h : EI C τ n (.Name z p) iter fun ds τ1 n1 => LcP C scope [i] ifs elt (fun _ => True) (fun d τ => τ.set i (.st (.d d))) (fun x τ2 n2 => ∃ acc, x = .d (.list acc) ∧ QF acc τ2 n2) ds τ1 n1)
    (hv : ∀ sc, Loc (relS scope sc) z ∧ (relS scope sc).names.lookup z = some .local) (hl : ifs.length ≤ 1) (hs : ∀ x, foldedSetIterable iter C.X.env x = pure x := by intro _; rfl) :
    EF C τ n (.ListComp elt [⟨.Name z p, iter, ifs, 0⟩] scope pos) QF := by
  intro pv σ G H R A k
  refine re_of (pe_lc (own := [(z, i)]) (g := fun v σ H Q => ∀ s Hb cE cl fp, RG (C.X.blk s Hb scope (compEnvC scope cl cE C.X.env) fp) (.Name z p) v σ H Q) (tt := fun σ H Q => ∀ s Hb cE cl fp, RTs (C.X.blk s Hb scope (compEnvC scope cl cE C.X.env) fp) ifs σ H Q) (te := fun σ H Q => ∀ s Hb cE cl fp, RE (C.X.blk s Hb scope (compEnvC scope cl cE C.X.env) fp) elt σ H Q) hc nd pi_ri ok (fun s Hb cE cl fp => ⟨fun pins s' σ H v u Q I r h => h s Hb cE cl fp pins s' u I r⟩)
    (fun s Hb cE cl fp => ⟨fun pins s' σ H Q I h => (pts_rts hl).run pins s' σ H Q I (h s Hb cE cl fp)⟩) (fun s Hb cE cl fp => ⟨fun pins s' σ H Q I h => h s Hb cE cl fp pins s' I⟩) hs) ?_
  exact lc_runF (vs := [i]) setOk_name (fun s H cE cl fp => tg_name nd ⟨hi, (hv _).1, .inr (hv _).2⟩) A h k
variable {QT : Bool → List Sl → Nat → Prop}
/-! texts compared -/
theorem rr_eqS {x y : Av} (h : ∃ i j, x = .d (.str i) ∧ y = .d (.str j) ∧ Q (aB (decide (i = j))) τ n) : RR C rEq x y τ n Q := by
  intro pv σ G H R v u A rx ry k
  obtain ⟨i, j, rfl, rfl, q⟩ := h
  rw [rx.str, ry.str]
  refine ⟨rfl, ?_⟩
  have e : decide (V.str i = V.str j) = decide (i = j) := by rw [Bool.eq_iff_iff]; simp
  rw [e]
  exact k _ _ G H τ n A (Ex.refl _) (rv_bool _) q
theorem rr_neS {x y : Av} (h : ∃ i j, x = .d (.str i) ∧ y = .d (.str j) ∧ Q (aB (!decide (i = j))) τ n) : RR C rNe x y τ n Q := by
  intro pv σ G H R v u A rx ry k
  obtain ⟨i, j, rfl, rfl, q⟩ := h
  rw [rx.str, ry.str]
  refine ⟨rfl, ?_⟩
  have e : decide (V.str i = V.str j) = decide (i = j) := by rw [Bool.eq_iff_iff]; simp
  rw [e]
  exact k _ _ G H τ n A (Ex.refl _) (rv_bool _) q
theorem et_neS (h : EX C τ n a fun x τ1 n1 => EX C τ1 n1 b fun y τ2 n2 => ∃ i j, x = .d (.str i) ∧ y = .d (.str j) ∧ QT (!decide (i = j)) τ2 n2) : ET C τ n (.Compare a [.NotEq] [b] pos) QT :=
  et_cmp op_ne (nomark _) (h.imp fun _ _ _ h1 => h1.imp fun _ _ _ ⟨i, j, e1, e2, q⟩ => rr_neS ⟨i, j, e1, e2, _, rfl, q⟩)
theorem et_eqS (h : EX C τ n a fun x τ1 n1 => EX C τ1 n1 b fun y τ2 n2 => ∃ i j, x = .d (.str i) ∧ y = .d (.str j) ∧ QT (decide (i = j)) τ2 n2) : ET C τ n (.Compare a [.Eq] [b] pos) QT :=
  et_cmp op_eq (nomark _) (h.imp fun _ _ _ h1 => h1.imp fun _ _ _ ⟨i, j, e1, e2, q⟩ => rr_eqS ⟨i, j, e1, e2, _, rfl, q⟩)
/-! the truth of data -/
def tru : PyData → Bool
  | .none => false
  | .bool b => b
  | .int i => i != 0
  | .str x => ((x.length : Int) != 0)
  | .list ds => !ds.isEmpty
  | .tuple ds => !ds.isEmpty
  | .dict ds => !ds.isEmpty
theorem et_tr (h : EX C τ n e fun x τ1 n1 => ∃ d, x = .d d ∧ (∀ z, d = .str z → z.length ≤ sizeLine) ∧ QT (tru d) τ1 n1) (he : ∀ whole, isTrue e C.X.env whole = (do let v ← whole; standAt e.pos; holding [v] (truthy v)) := by intro _; rfl) : ET C τ n e QT := by
  intro pv σ G H R A k
  refine rt_of (pt_truth pe_re he) ?_
  refine h pv σ G H _ A fun v x G1 H1 τ1 n1 A1 e1 r1 ⟨d, ex, hs, q⟩ => ?_
  subst ex
  refine ⟨tru d, ?_, k _ G1 H1 τ1 n1 A1 e1 q⟩
  cases d with
  | none => rw [r1.none]; rfl
  | bool b => rw [r1.bool]; rfl
  | int i => rw [r1.int]; rfl
  | str z => rw [r1.str]; exact ⟨hs z rfl, rfl⟩
  | list ds =>
    obtain ⟨a, xs, rfl, h1, d1⟩ := r1.list
    exact .inl ⟨xs, SqL.of (A1.gr.sta a _ h1).2, by cases d1 <;> rfl⟩
  | tuple ds =>
    obtain ⟨a, xs, rfl, h1, d1⟩ := r1.tuple
    exact .inr (.inl ⟨xs, ex_t A1.gh h1, by cases d1 <;> rfl⟩)
  | dict ds => cases r1
theorem et_trN {x : Str} {p : Pos} (h : EX C τ n (.Name x p) fun x τ1 n1 => ∃ d, x = .d d ∧ (∀ z, d = .str z → z.length ≤ sizeLine) ∧ QT (tru d) τ1 n1) : ET C τ n (.Name x p) QT := et_tr h
end
theorem swp_t {X : Cx} {sc scope : Scope} {elt : Expr} {gs : List Comprehension} {y : Str} {py pos : Pos} {l : Nat} (hS : X.env.scope = sc) (hbk : X.env.blockKind = .function) (h : sc.names.lookup y = some .local) (hl : (py.line == pos.line) = true)
    (ho : (scope.names.any fun (n, k) => n == y && (k == .local || k == .cell)) = false) : swapsWith (.ListComp elt gs scope pos) (some (.Name y py)) l X.env = pure true := by
  have e1 : (X.env.blockKind == .function) = true := by rw [hbk]; rfl
  have e2 : (X.env.kindOf y == some .local) = true := by
    have : X.env.kindOf y = some .local := by show X.env.scope.names.lookup y = _; rw [hS]; exact h
    rw [this]; rfl
  show (pure (X.env.blockKind == .function && X.env.kindOf y == some .local && py.line == pos.line && !(scope.names.any fun (n, k) => n == y && (k == .local || k == .cell))) : Sem Bool) = pure true
  rw [e1, e2, hl, ho]
  rfl
theorem swp_f {X : Cx} {sc scope : Scope} {elt : Expr} {gs : List Comprehension} {y : Str} {py pos : Pos} {l : Nat} (hS : X.env.scope = sc) (h : (sc.names.lookup y == some .local) = false) : swapsWith (.ListComp elt gs scope pos) (some (.Name y py)) l X.env = pure false := by
  have e2 : (X.env.kindOf y == some .local) = false := by
    have : X.env.kindOf y = sc.names.lookup y := by show X.env.scope.names.lookup y = _; rw [hS]
    rw [this]; exact h
  show (pure (X.env.blockKind == .function && X.env.kindOf y == some .local && py.line == pos.line && !(scope.names.any fun (n, k) => n == y && (k == .local || k == .cell))) : Sem Bool) = pure false
  rw [e2]
  simp
end M

set_option Elab.async false
set_option linter.all false
set_option maxRecDepth 100000
set_option maxHeartbeats 4000000
namespace M
open PySem PySem.Spec PyProof.Rows L2
theorem hyl_of {X : Cx} {sc : Scope} {y : Str} (hS : X.env.scope = sc) (h : sc.names.lookup y = some .local) : X.env.scope.names.lookup y = some .local := by rw [hS]; exact h
/-- the last one of a list -/
theorem atI_last {α : Type} {xs : List α} {x : α} (h : xs[xs.length - 1]? = some x) : atI xs (-1) = some x := by
  have hl := (List.getElem?_eq_some_iff.mp h).1
  unfold atI ixN
  rw [if_neg (by decide), if_pos (by omega)]
  show xs[((-1 : Int) + (xs.length : Int)).toNat]? = some x
  rw [show ((-1 : Int) + (xs.length : Int)).toNat = xs.length - 1 by omega]
  exact h
section
variable {C : Cn} {τ : List Sl} {n : Nat} {b : Expr} {pos : Pos} {QT : Bool → List Sl → Nat → Prop}
theorem et_neStr {p pp : Pos} {es : List Expr} {ks : List Keyword} (h : EX C τ n (.Call (.Name "str" p) es ks pp) fun x τ1 n1 => EX C τ1 n1 b fun y τ2 n2 => ∃ i j, x = .d (.str i) ∧ y = .d (.str j) ∧ QT (!decide (i = j)) τ2 n2) : ET C τ n (.Compare (.Call (.Name "str" p) es ks pp) [.NotEq] [b] pos) QT := et_neS h
theorem et_eqStr {p pp : Pos} {es : List Expr} {ks : List Keyword} (h : EX C τ n (.Call (.Name "str" p) es ks pp) fun x τ1 n1 => EX C τ1 n1 b fun y τ2 n2 => ∃ i j, x = .d (.str i) ∧ y = .d (.str j) ∧ QT (decide (i = j)) τ2 n2) : ET C τ n (.Compare (.Call (.Name "str" p) es ks pp) [.Eq] [b] pos) QT := et_eqS h
end
end M

set_option Elab.async false
set_option linter.all false
set_option maxRecDepth 100000
set_option maxHeartbeats 4000000
namespace M
open PySem PySem.Spec PyProof.Rows L2
section
variable {C : Cn} {τ : List Sl} {n : Nat} {e a b c : Expr} {pos : Pos} {Q : Av → List Sl → Nat → Prop} {QT : Bool → List Sl → Nat → Prop} {k : Nat}
/-! data in a list of data -/
theorem rr_inD {x y : Av} (h : ∃ d ds, x = .d d ∧ y = .d (.list ds) ∧ SeqAt.shaped d = true ∧ SeqAt.shaped (.list ds) = true ∧ Q (aB (ds.any fun z => PyData.eqv z d)) τ n) : RR C (rInD C.X.K) x y τ n Q := by
  intro pv σ G H R v u A rx ry k
  obtain ⟨d, ds, rfl, rfl, s1, s2, q⟩ := h
  exact ⟨d, ds, dt_dp A.gh _ _ rx, dt_dp A.gh _ _ ry, s1, s2, k _ _ G H τ n A (Ex.refl _) (rv_bool _) q⟩
theorem rr_notinD {x y : Av} (h : ∃ d ds, x = .d d ∧ y = .d (.list ds) ∧ SeqAt.shaped d = true ∧ SeqAt.shaped (.list ds) = true ∧ Q (aB (!ds.any fun z => PyData.eqv z d)) τ n) : RR C (rNotInD C.X.K) x y τ n Q := by
  intro pv σ G H R v u A rx ry k
  obtain ⟨d, ds, rfl, rfl, s1, s2, q⟩ := h
  exact ⟨d, ds, dt_dp A.gh _ _ rx, dt_dp A.gh _ _ ry, s1, s2, k _ _ G H τ n A (Ex.refl _) (rv_bool _) q⟩
theorem et_inD (hr : Room k C.X.A) (hm : behindInMarks .In b = false) (h : EX C τ n a fun x τ1 n1 => EX C τ1 n1 b fun y τ2 n2 => ∃ d ds, x = .d d ∧ y = .d (.list ds) ∧ SeqAt.shaped d = true ∧ SeqAt.shaped (.list ds) = true ∧ QT (ds.any fun z => PyData.eqv z d) τ2 n2) : ET C τ n (.Compare a [.In] [b] pos) QT :=
  et_cmp (op_inD (by have := hr.un; omega)) hm (h.imp fun _ _ _ h1 => h1.imp fun _ _ _ ⟨d, ds, e1, e2, s1, s2, q⟩ => rr_inD ⟨d, ds, e1, e2, s1, s2, _, rfl, q⟩)
theorem et_notinD (hr : Room k C.X.A) (hm : behindInMarks .NotIn b = false) (h : EX C τ n a fun x τ1 n1 => EX C τ1 n1 b fun y τ2 n2 => ∃ d ds, x = .d d ∧ y = .d (.list ds) ∧ SeqAt.shaped d = true ∧ SeqAt.shaped (.list ds) = true ∧ QT (!ds.any fun z => PyData.eqv z d) τ2 n2) : ET C τ n (.Compare a [.NotIn] [b] pos) QT :=
  et_cmp (op_notInD (by have := hr.un; omega)) hm (h.imp fun _ _ _ h1 => h1.imp fun _ _ _ ⟨d, ds, e1, e2, s1, s2, q⟩ => rr_notinD ⟨d, ds, e1, e2, s1, s2, _, rfl, q⟩)
theorem et_inLL (hr : Room k C.X.A) (hm : behindInMarks .In b = false) (h : EX C τ n a fun x τ1 n1 => EX C τ1 n1 b fun y τ2 n2 => ∃ ns nss, x = aL ns ∧ y = .d (dLL nss) ∧ QT (decide (ns ∈ nss)) τ2 n2) : ET C τ n (.Compare a [.In] [b] pos) QT :=
  et_inD hr hm (h.imp fun _ _ _ h1 => h1.imp fun _ _ _ ⟨ns, nss, e1, e2, q⟩ => ⟨_, _, e1, e2, shaped_dL _, shaped_LL _, by rw [any_LL]; exact q⟩)
theorem et_notinLL (hr : Room k C.X.A) (hm : behindInMarks .NotIn b = false) (h : EX C τ n a fun x τ1 n1 => EX C τ1 n1 b fun y τ2 n2 => ∃ ns nss, x = aL ns ∧ y = .d (dLL nss) ∧ QT (!decide (ns ∈ nss)) τ2 n2) : ET C τ n (.Compare a [.NotIn] [b] pos) QT :=
  et_notinD hr hm (h.imp fun _ _ _ h1 => h1.imp fun _ _ _ ⟨ns, nss, e1, e2, q⟩ => ⟨_, _, e1, e2, shaped_dL _, shaped_LL _, by rw [any_LL]; exact q⟩)
abbrev dBs (bs : List Bool) : PyData := .list (bs.map PyData.bool)
theorem canL_bs : ∀ bs : List Bool, PyData.canLayAll0 (bs.map PyData.bool) = true
  | [] => by simp [PyData.canLayAll0]
  | b :: r => by
    have := canL_bs r
    simp only [List.map_cons, PyData.canLayAll0, PyData.canLay0, Bool.true_and]
    exact this
theorem dep_bs : ∀ bs : List Bool, PyData.depthAll (bs.map PyData.bool) = 0
  | [] => by simp [PyData.depthAll]
  | b :: r => by
    have := dep_bs r
    simp only [List.map_cons, PyData.depthAll, PyData.depth]
    rw [this]; rfl
theorem shaped_bs (bs : List Bool) : SeqAt.shaped (dBs bs) = true := by
  unfold SeqAt.shaped
  have h1 : PyData.canLay0 (dBs bs) = true := by simp only [PyData.canLay0]; exact canL_bs bs
  have h2 : PyData.depth (dBs bs) = 1 := by simp only [PyData.depth]; rw [dep_bs]
  rw [h1, h2]; rfl
theorem shaped_b (b : Bool) : SeqAt.shaped (.bool b) = true := by cases b <;> rfl
theorem any_bs (b : Bool) : ∀ bs : List Bool, ((bs.map PyData.bool).any fun z => PyData.eqv z (.bool b)) = decide (b ∈ bs)
  | [] => by simp
  | m :: bs => by
    have h := any_bs b bs
    rw [List.map_cons, List.any_cons, h]
    cases m <;> cases b <;> simp [PyData.eqv]
theorem et_inBs (hr : Room k C.X.A) (hm : behindInMarks .In b = false) (h : EX C τ n a fun x τ1 n1 => EX C τ1 n1 b fun y τ2 n2 => ∃ v bs, x = aB v ∧ y = .d (dBs bs) ∧ QT (decide (v ∈ bs)) τ2 n2) : ET C τ n (.Compare a [.In] [b] pos) QT :=
  et_inD hr hm (h.imp fun _ _ _ h1 => h1.imp fun _ _ _ ⟨ns, nss, e1, e2, q⟩ => ⟨_, _, e1, e2, shaped_b _, shaped_bs _, by rw [any_bs]; exact q⟩)
theorem et_notinBs (hr : Room k C.X.A) (hm : behindInMarks .NotIn b = false) (h : EX C τ n a fun x τ1 n1 => EX C τ1 n1 b fun y τ2 n2 => ∃ v bs, x = aB v ∧ y = .d (dBs bs) ∧ QT (!decide (v ∈ bs)) τ2 n2) : ET C τ n (.Compare a [.NotIn] [b] pos) QT :=
  et_notinD hr hm (h.imp fun _ _ _ h1 => h1.imp fun _ _ _ ⟨ns, nss, e1, e2, q⟩ => ⟨_, _, e1, e2, shaped_b _, shaped_bs _, by rw [any_bs]; exact q⟩)
/-! an own list, any, beside the empty one -/
theorem eqv_nil (ds : List PyData) : PyData.eqv (.list ds) (.list []) = ds.isEmpty := by
  cases ds with
  | nil => simp [PyData.eqv, PyData.eqvAll]
  | cons d ds => simp [PyData.eqv, PyData.eqvAll]
theorem et_neNilO {i : Nat} {z : Str} {p p2 : Pos} {ds : List PyData} (hz : Nm C.X i z) (ht : τ[i]? = some (.ow ds)) (hr : Room k C.X.A) (hs : SeqAt.shaped (.list ds) = true) (q : QT (!ds.isEmpty) τ n) : ET C τ n (.Compare (.Name z p) [.NotEq] [.List [] p2] pos) QT := by
  intro pv σ G H R A kk
  refine rt_of (pt_cmpR (op_neD hr.units) (pe_var hz.hN hz.hv hz.hd hz.hc) (pe_lst pa_nil) (nomark _)) ?_
  obtain ⟨a, xs, e1, e2, r, e3, u, e4⟩ := A.ow i ds ht
  refine ⟨_, e1, by decide, fun p hp => ?_⟩
  have np : a ≠ p := fun z => by rw [z, hp] at e2; cases e2
  have A1 := A.new (o := .lst []) hp
  have ex : Ex G (upd G p (.lst [])) := Ex.new (A.freshG hp)
  refine ⟨.list ds, .list [], .lst (SqL.of (by rw [upd_ne np]; exact e2)) (dtAll_dp (fun b o e => (A1.gr.sta b o (ex b o e)).2) _ _ r), .lst (SqL.of upd_same) .nil, hs, by decide, _, rfl, ?_⟩
  rw [eqv_nil]
  exact kk _ _ _ τ n A1 ex q
end
end M

set_option Elab.async false
set_option linter.all false
set_option maxRecDepth 100000
set_option maxHeartbeats 4000000
namespace M
open PySem PySem.Spec PyProof.Rows L2
section
variable {C : Cn} {τ : List Sl} {n : Nat} {D : AE}
/-- x = [.. for ..], an own list from now on -/
theorem sx_ownLc1 {j i : Nat} {z y : Str} {p py pos spos : Pos} {iter elt : Expr} {ifs : List Expr} {scope : Scope} (hc : C.X.calm = true) (nd : C.X.N.Nodup) (hy : C.X.N[j]? = some y) (hyl : C.X.env.scope.names.lookup y = some .local)
    (hsw : swapsWith (.ListComp elt [⟨.Name z p, iter, ifs, 0⟩] scope pos) (some (.Name y py)) spos.line C.X.env = pure true) (hi : C.X.N[i]? = some z) (ok : BlkOk C.X.N C.X.env.scope scope [(z, i)])
    (h : EI C τ n (.Name z p) iter fun ds τ1 n1 => LcP C scope [i] ifs elt (fun _ => True) (fun d τ => τ.set i (.st (.d d))) (fun x τ2 n2 => ∃ acc, x = .d (.list acc) ∧ D.nx (τ2.set j (.ow acc)) n2) ds τ1 n1)
    (hv : ∀ sc, Loc (relS scope sc) z ∧ (relS scope sc).names.lookup z = some .local) (hl : ifs.length ≤ 1) (hs : ∀ x, foldedSetIterable iter C.X.env x = pure x := by intro _; rfl) :
    SX C τ n (.Assign [.Name y py] (.ListComp elt [⟨.Name z p, iter, ifs, 0⟩] scope pos) spos) D := by
  intro σ G H Dc A k
  refine rs_of (ps_setLc (own := [(z, i)]) (g := fun v σ H Q => ∀ s Hb cE cl fp, RG (C.X.blk s Hb scope (compEnvC scope cl cE C.X.env) fp) (.Name z p) v σ H Q) (tt := fun σ H Q => ∀ s Hb cE cl fp, RTs (C.X.blk s Hb scope (compEnvC scope cl cE C.X.env) fp) ifs σ H Q) (te := fun σ H Q => ∀ s Hb cE cl fp, RE (C.X.blk s Hb scope (compEnvC scope cl cE C.X.env) fp) elt σ H Q) hc nd hy hyl hsw pi_ri ok (fun s Hb cE cl fp => ⟨fun pins s' σ H v u Q I r h => h s Hb cE cl fp pins s' u I r⟩)
    (fun s Hb cE cl fp => ⟨fun pins s' σ H Q I h => (pts_rts hl).run pins s' σ H Q I (h s Hb cE cl fp)⟩) (fun s Hb cE cl fp => ⟨fun pins s' σ H Q I h => h s Hb cE cl fp pins s' I⟩) hs) ?_
  refine lc_runF (vs := [i]) (QF := fun acc τ2 n2 => D.nx (τ2.set j (.ow acc)) n2) setOk_name (fun s H cE cl fp => tg_name nd ⟨hi, (hv _).1, .inr (hv _).2⟩) A h fun q vs ds G' H' τ' n' A' e' hp d qq => ?_
  exact k.nx _ G' _ _ n' (A'.putOw j hp d) e' qq
end
end M

set_option Elab.async false
set_option linter.all false
set_option maxRecDepth 100000
set_option maxHeartbeats 4000000
namespace M
open PySem PySem.Spec PyProof.Rows L2
section
variable {C : Cn} {τ : List Sl} {n : Nat} {D : AE}
/-- a statement with a word behind it -/
theorem sxs_mid {st : Stmt} {r : List Stmt} (P : List Sl → Nat → Prop) (h1 : SX C τ n st { nx := P, rt := D.rt, bk := D.bk, ct := D.ct, rf := D.rf }) (h2 : ∀ τ' n', P τ' n' → SXs C τ' n' r D) : SXs C τ n (st :: r) D :=
  sxs_cons fun σ G H Dc A k => h1 σ G H Dc A ⟨fun σ' G' H' τ' n' A' e p => k.nx σ' G' H' τ' n' A' e (h2 _ _ p), k.rt, k.bk, k.ct, k.rf⟩
end
end M

set_option Elab.async false
set_option linter.all false
set_option maxRecDepth 100000
set_option maxHeartbeats 4000000
namespace M
open PySem PySem.Spec PyProof.Rows L2
/-! ### set(xs) of a list of whole numbers, with all that sorted() asks of it -/
abbrev fS (w : World) : Obj := { cls := .type "set", dict := none, data := .set #[] 0 (.fresh 0 0 (!w.params.followText "set-order")) }
abbrev lI (a : Addr) : Obj := { cls := .type "list_iterator", data := .fields #[.ref a, .int 0 0] }
section
variable {P : Program} {w : World} {A : Around} {E : Value → Shared → Prop} {s : Shared}
/-- the set is filled -/
theorem set_fill {a : Addr} {us : Array Value} (ns : List Int) (hd : A.handled = none) (ha : s.heap.IsList a us) (hi : IntsAre us.toList ns) (hb : ns.length + 1 < scanBound) :
    codeAny (model P w) A (.builtin "set.update.loop" ⟨[.ref s.heap.objs.size, .ref (s.heap.objs.size + 1)], []⟩)
      (fun r t => r = .ok (.ret .none) ∧ ∃ h' tk c, t = { s with heap := h', toks := tk } ∧ SetR w h' s.heap.objs.size (fun j => decide (j ∈ ns)) c ∧ c ≤ ns.length ∧ ∀ b o, s.heap.get? b = some o → h'.get? b = some o)
      { s with heap := (s.heap.push (fS w)).push (lI a) } := by
  obtain ⟨ol, hol, r1, r2⟩ := id ha
  have alt : a < s.heap.objs.size := Heap.lt_size hol
  have usz : us.size = ns.length := by have q := IntsAre.length hi; rwa [Array.length_toList] at q
  have h1 : (s.heap.push (fS w)).get? s.heap.objs.size = some (fS w) := Heap.get?_push_size _ rfl
  have z1 : (s.heap.push (fS w)).objs.size = s.heap.objs.size + 1 := Heap.size_push ..
  have ne : a ≠ s.heap.objs.size + 1 := Nat.ne_of_lt (Nat.lt_succ_of_lt alt)
  have at_ : ∀ (i : Nat) (v : Value), us[i]? = some v → ∃ k t, ns[i]? = some k ∧ v = .int k t := by
    intro i v hv
    have il : i < ns.length := by rw [← usz]; exact (Array.getElem?_eq_some_iff.mp hv).1
    obtain ⟨t, e⟩ := IntsAre.int_at hi i v (by rw [Array.getElem?_toList]; exact hv)
    refine ⟨ns[i], t, List.getElem?_eq_getElem il, e.trans ?_⟩
    simp [List.getD, il]
  have hW := (Walks.list (A := A.in1) (prog := P) (w := w) (by show A.handled = none; exact hd) (s.heap.objs.size + 1) a ne us).toS
  refine set_update_ints hW s.heap.objs.size (by simp only [List.mem_cons, List.not_mem_nil, or_false, not_or]; exact ⟨Nat.ne_of_lt (Nat.lt_succ_self _), Nat.ne_of_gt alt⟩) ns usz hb at_ (us.size - 0) 0 _ (by omega) (Nat.zero_le _) ?_ ?_ ?_
  · have hI : ((s.heap.push (fS w)).push (lI a)).get? (s.heap.objs.size + 1) = some (lI a) := by rw [← z1]; exact Heap.get?_push_size _ rfl
    exact ⟨⟨_, hI, rfl, rfl⟩, (ha.push _).push _⟩
  · exact ⟨0, Nat.le_refl 0, setR_new_at (Heap.get?_push_of_some _ h1)⟩
  · rintro ⟨h', g', d', tk', os'⟩ c hm hc hR
    obtain rfl : g' = s.gens := hm.gens
    obtain rfl : d' = s.drawn := hm.drawn
    obtain rfl : os' = s.os := hm.os
    refine ⟨rfl, h', tk', c, rfl, hR, by omega, fun b o e => ?_⟩
    have bl := Heap.lt_size e
    exact hm.heap b o (by simp only [List.mem_cons, List.not_mem_nil, or_false, not_or]; exact ⟨Nat.ne_of_lt bl, Nat.ne_of_lt (Nat.lt_succ_of_lt bl)⟩) (Heap.get?_push_of_some _ (Heap.get?_push_of_some _ e))
set_option maxHeartbeats 3200000 in
theorem set_of_list {a : Addr} {us : Array Value} (ns : List Int) {Q : Value → Shared → Prop} (hd : A.handled = none) (ha : s.heap.IsList a us) (hi : IntsAre us.toList ns) (hb : ns.length + 1 < scanBound)
    (q : ∀ (h' : Heap) (tk c : Nat), SetR w h' s.heap.objs.size (fun j => decide (j ∈ ns)) c → c ≤ ns.length → (∀ b o, s.heap.get? b = some o → h'.get? b = some o) → Q (.ref s.heap.objs.size) { s with heap := h', toks := tk }) :
    wpAny (model P w) A (call (.type "set") [.ref a]) Q E s := by
  have fs := PySem.F.called_set
  obtain ⟨m1, m2, m3⟩ := fs.mro
  have k1 := fs.made; have k2 := fs.sub; have k3 := fs.notType; have k4 := fs.canCreate
  have k5 := PySem.F.typeCall_set_1 (.ref a)
  refine wpAny_call (codeAny_of_tree (show wpAny _ _ (callAny (.type "set") _) _ _ _ from ?_))
  refine wpAny_pure ⟨Code.quiet_builtin _ (by decide +kernel), codeAny_builtin PySem.F.entry_type_call ?_⟩
  rw [Around.under_plain (weight_type_call_type "set" [.ref a] []) rfl]
  repeat (any_goals (first | assumption | wp_step))
  have made := code_set_led1 (P := P) (w := w) (A := A.in1) (s := s) (.ref a) (E := E) (Q₁ := fun ob t => ob = .ref s.heap.objs.size ∧ t = { s with heap := s.heap.push (fS w) }) ⟨rfl, rfl⟩
  refine codeAny_mono made ?_
  rintro (e | fl) s1 z
  · exact z
  cases fl with
  | next => exact z.elim
  | brk => exact z.elim
  | cont => exact z.elim
  | ret ob =>
    obtain ⟨rfl, rfl⟩ := z
    have at1 : (s.heap.push (fS w)).get? s.heap.objs.size = some (fS w) := Heap.get?_push_size _ rfl
    have ty1 : Shared.TypeIs { s with heap := s.heap.push (fS w) } (.ref s.heap.objs.size) "set" := ⟨_, at1, rfl⟩
    have l1 := fs.init.lookup
    have l2 := fs.init.bind (.ref s.heap.objs.size)
    repeat (any_goals (first | assumption | wp_step))
    refine codeAny_mono (codeAny_call_builtin (R := wants (fun r t => r = .none ∧ ∃ h' tk c, t = { s with heap := h', toks := tk } ∧ SetR w h' s.heap.objs.size (fun j => decide (j ∈ ns)) c ∧ c ≤ ns.length ∧ ∀ b o, s.heap.get? b = some o → h'.get? b = some o) E)
      fs.init.plain PySem.F.entry_set_init (check_set_init_1 ty1 ?_)) ?_
    · obtain ⟨⟨oc, od, oda, osl⟩, hol, r1, nl, r2⟩ := id ha
      obtain rfl : oc = .type "list" := r1
      obtain rfl : oda = .seq us nl := r2
      have la : (s.heap.push (fS w)).IsList a us := ⟨_, Heap.get?_push_of_some _ hol, rfl, nl, rfl⟩
      have gl := Heap.get?_push_of_some (fS w) hol
      have b1 := PySem.F.sub_list_set
      have b2 := PySem.F.sub_list_frozenset
      have b3 : (Value.type "list" == Value.type "dict") = false := by decide
      unfold Builtin.«set.__init__» noKeywords Builtin.Frozenset.updateFrom
      generalize hPI : pyIter = PI
      wp_walk
      subst hPI
      refine wpAny_pyIter_list la ?_
      refine wpAny_bind (wpAny_runValue ?_)
      have z1 : (s.heap.push (fS w)).objs.size = s.heap.objs.size + 1 := Heap.size_push ..
      have key := set_fill (P := P) (w := w) (A := A.in1.in1) (s := s) ns (by simp [hd]) ha hi hb
      rw [← z1] at key
      refine codeAny_mono key ?_
      rintro r t ⟨rfl, h', tk, c, rfl, y1, y2, y3⟩
      refine wpAny_pure ?_
      show wpAny _ _ (ret Value.none) _ _ _
      exact wpAny_pure ⟨rfl, h', tk, c, rfl, y1, y2, y3⟩
    · rintro (e | fl) s2 z
      · exact z
      cases fl with
      | next => exact z.elim
      | brk => exact z.elim
      | cont => exact z.elim
      | ret r =>
        obtain ⟨rfl, h', tk, c, rfl, y1, y2, y3⟩ := z
        repeat (any_goals (first | assumption | wp_step))
        exact q _ _ _ y1 y2 y3
end
section
variable {C : Cn} {τ : List Sl} {n : Nat} {e : Expr} {pos : Pos} {Q : Av → List Sl → Nat → Prop}
/-- sorted(set(xs)) of a list of whole numbers, some perhaps told again -/
def tSS (K : PySem.W.Frag) (te : TE) : TE := fun σ H Q => te σ H fun v H1 => ∃ (a : Addr) (ns : List Int), v = .ref a ∧ SqL K H1 a (ns.map V.int) ∧ ns.length < 60 ∧ ∀ (os : List Int) (p : Addr), os.Pairwise (· < ·) → (∀ k : Int, k ∈ os ↔ k ∈ ns) → H1 p = none → Q (.ref p) (upd H1 p (.lst (os.map V.int)))
theorem pe_sortedSet {X : Cx} {te : TE} {p p2 qos : Pos} (hc : X.calm = true) (hg : Gl X "sorted") (hm : X.mg "sorted" = none) (hg2 : Gl X "set") (hm2 : X.mg "set" = none) (he : PE X e te)
    (na : starEach [e] X.env = (false, eval e X.env) :: starEach [] X.env := by rfl) (nb : starEach [.Call (.Name "set" p2) [e] [] qos] X.env = (false, eval (.Call (.Name "set" p2) [e] [] qos) X.env) :: starEach [] X.env := by rfl) :
    PE X (.Call (.Name "sorted" p) [.Call (.Name "set" p2) [e] [] qos] [] pos) (tSS X.K te) := by
  refine ⟨fun pins s σ H Q I h => ?_⟩
  refine Call_ (ld_blt I hg hm boot_sorted1 (callWith_builtin1 (args_cons ?_ nb) nb rfl))
  refine Call_ (ld_blt I hg2 hm2 boot_set (callWith_type1 (args_cons (thn (he.run pins s σ H _ I h) fun v s1 ⟨x, H1, I1, r1, q1⟩ => args_nil ?_) na) na rfl))
  obtain ⟨a, ns, rfl, hq, hl, q⟩ := q1
  cases r1
  obtain ⟨its, r, pl, hz⟩ := I1.list hq
  refine set_of_list ns (I1.ok.hd hc) pl.isList (by simpa using r.ints) (by unfold scanBound; omega) fun h' tk c R hcn hk => ?_
  refine args_nil ?_
  have I2 : Inv X pins σ H1 { s1 with heap := h', toks := tk } := I1.kept hk
  refine sorted_set (s := { s1 with heap := h', toks := tk }) R (I1.ok.hd hc) (by omega) ?_
  rintro ⟨h2, g2, d2, t2, o2⟩ p out c2 os kk gg oo hp hg hi hs hm hlen
  obtain rfl : o2 = s1.os := oo
  obtain rfl : g2 = s1.gens := gg
  have fr : H1 p = none := I2.hok.fresh hp
  have ll : (os.map V.int).length ≤ sizeLine := by rw [List.length_map, hlen, sizeLine_eq]; omega
  have J : Inv X pins σ (upd H1 p (.lst (os.map V.int))) { s1 with heap := h2, gens := s1.gens, drawn := d2, toks := t2 } := by
    have un := Un.laid (fs := frs X.stack) (ex := []) (o := .lst (os.map V.int)) kk hp fr
    exact Inv.call (s := { s1 with heap := h', toks := tk }) (ch := []) I2 un (I2.hok.laid kk hp ⟨ll, out.toList, c2, vals_of_ints hi, hg⟩) I1.bare fun _ z => nomatch z
  refine ⟨.ref p, _, J, rfl, q os p hs (fun k => ?_) fr⟩
  rw [hm k, decide_eq_true_eq]
theorem ex_sortedSet {p p2 qos : Pos} (hc : C.X.calm = true) (h1 : Bl C.X "sorted") (h2 : Bl C.X "set") (h : EX C τ n e fun x τ1 n1 => ∃ ns : List Int, x = aL ns ∧ ns.length < 60 ∧ ∀ os : List Int, os.Pairwise (· < ·) → (∀ k, k ∈ os ↔ k ∈ ns) → Q (aL os) τ1 n1)
    (na : starEach [e] C.X.env = (false, eval e C.X.env) :: starEach [] C.X.env := by rfl) (nb : starEach [.Call (.Name "set" p2) [e] [] qos] C.X.env = (false, eval (.Call (.Name "set" p2) [e] [] qos) C.X.env) :: starEach [] C.X.env := by rfl) :
    EX C τ n (.Call (.Name "sorted" p) [.Call (.Name "set" p2) [e] [] qos] [] pos) Q := by
  intro pv σ G H R A k
  refine re_of (pe_sortedSet hc h1.hg h1.hm h2.hg h2.hm pe_re na nb) ?_
  refine h pv σ G H _ A fun v x G1 H1 τ1 n1 A1 e1 r1 ⟨ns, ex, hl, q⟩ => ?_
  subst ex
  obtain ⟨a, ys, rfl, hy, d1⟩ := r1.list
  rw [dpa_ints d1] at hy
  refine ⟨a, ns, rfl, SqL.of (A1.gh _ _ hy), hl, fun os p pw mm hp => ?_⟩
  have ex : Ex G1 (upd G1 p (.lst (os.map V.int))) := Ex.new (A1.freshG hp)
  exact k _ _ _ _ τ1 n1 (A1.new hp) (e1.trans ex) (rv_lst upd_same (dpAll_ints os)) (q os pw mm)
end
end M

set_option Elab.async false
set_option linter.all false
set_option maxRecDepth 100000
set_option maxHeartbeats 4000000
namespace M
open PySem PySem.Spec PyProof.Rows L2
/-! ### any(..) of a generator expression -/
theorem any_loop {P : Program} {w : World} {A : Around} {a : Addr} {g : Nat} {bs : List Bool} {GS : Nat → Shared → Prop} {GF : Shared → Prop} {R : Result → Shared → Prop} (hh : A.handled = none) (hd : A.depth < recursionLimit)
    (hgen : ∀ i s, GS i s → s.heap.IsGen a g ∧ s.heap.NoLimit ∧ AllBare s.gens)
    (hst : ∀ i s s', GS i s → (∀ b o, s.heap.get? b = some o → s'.heap.get? b = some o) → s'.os = s.os → AllBare s'.gens → GS i s')
    (hF : ∀ i s, GS i s → GF s) (hFb : ∀ s, GF s → AllBare s.gens) (hFk : ∀ s s', GF s → (∀ b o, s.heap.get? b = some o → s'.heap.get? b = some o) → s'.os = s.os → AllBare s'.gens → GF s') :
    ∀ (k i : Nat) (s : Shared), bs.length - i = k → i ≤ bs.length → GS i s →
      (∃ gs, s.gens[g]? = some gs ∧ gs.Goes (model P w) A.in1.in1 (gE GF) (gY GS bs) (bs.length - i) (.send .none) (s.setGen g .running)) →
      (∀ s', GF s' → R (.ok (.ret (.bool ((bs.drop i).any id)))) s') → codeAny (model P w) A (.builtin "any.loop" ⟨[.ref a], []⟩) R s := by
  intro k
  induction k with
  | zero =>
    intro i s hk hi st ⟨gs, hgs, hgo⟩ hR
    have hin : i = bs.length := by omega
    subst hin
    rw [Nat.sub_self] at hgo
    obtain ⟨hg, hl, hb⟩ := hgen _ _ st
    refine codeAny_builtin F.entry_any_loop ?_
    rw [Around.under_plainId F.plain_any_loop _]
    show wpAny _ A.in1 (pyNext (.ref a) >>= _) _ _ s
    refine wpAny_bind (wpAny_pyNext_genexpQ (A := A.in1) (P := fun n s₀ s1 => n = 0 ∧ GF s1) hh hl hd hg hgs hgo (fun v s₁ gs' hb hv => ?_) (fun s₁ hp h' hk => ?_))
    · obtain ⟨i, b, _, _, _, _, hk⟩ := hv
      obtain ⟨_, hb1⟩ := (⟨trivial, (hgen _ _ ‹GS (i + 1) s₁›).2.2⟩ : True ∧ AllBare s₁.gens)
      exact False.elim (hk s₁ rfl rfl hb1)
    · obtain ⟨_, hg1⟩ := hp
      refine wpAny_bind (wpAny_rule (wpAny_pure ?_))
      have hb1 := hFb _ hg1
      have := hR { s₁.setGen g .finished with heap := h' } (hFk s₁ _ hg1 hk rfl (L2.allBare_setGen hb1 rfl))
      rw [List.drop_of_length_le (Nat.le_refl _)] at this
      exact this
  | succ k ih =>
    intro i s hk hi st ⟨gs, hgs, hgo⟩ hR
    have hlt : i < bs.length := by omega
    obtain ⟨hg, hl, hb⟩ := hgen _ _ st
    have hgl : g < s.gens.size := (Array.getElem?_eq_some_iff.mp hgs).1
    obtain ⟨m, hm⟩ : ∃ m, bs.length - i = m + 1 := ⟨bs.length - i - 1, by omega⟩
    rw [hm] at hgo
    refine codeAny_builtin F.entry_any_loop ?_
    rw [Around.under_plainId F.plain_any_loop _]
    show wpAny _ A.in1 (pyNext (.ref a) >>= _) _ _ s
    refine wpAny_bind (GenW.wpAny_gsz (n := g + 1) hgl (wpAny_pyNext_genexpQ (A := A.in1) (P := fun n s₀ s1 => n = 0 ∧ GF s1) hh hl hd hg hgs hgo (fun v s₁ gs' hbare hv => ?_) (fun s₁ hp h' hk => ?_)))
    · intro hsz
      obtain ⟨j, b, hj, hbj, rfl, st1, hkap⟩ := hv
      have hji : j = i := by omega
      subst hji
      have hb1 := (hgen _ _ st1).2.2
      have hsz1 : g < s₁.gens.size := by
        have q : (s₁.setGen g gs').gens.size = s₁.gens.size := by simp [Shared.setGen]
        have hsz' : g + 1 ≤ (s₁.setGen g gs').gens.size := hsz
        omega
      have st2 : GS (j + 1) (s₁.setGen g gs') := hst _ s₁ _ st1 (fun b o e => e) rfl (L2.allBare_setGen hb1 hbare)
      have dj := drop_at hbj
      refine wpAny_bind (wpAny_holding (wpAny_truthy_bool ?_))
      refine wpAny_bind (wpAny_letGo ?_)
      cases b with
      | false =>
        simp only [Bool.false_eq_true, if_false]
        refine wpAny_pure ⟨plainId_quiet F.plain_any_loop _, ih (j + 1) _ (by omega) hlt st2 ⟨gs', L2.setGen_at hsz1, ?_⟩ fun s' q => ?_⟩
        · have e : bs.length - (j + 1) = m := by omega
          rw [e]
          exact hkap _ rfl rfl (L2.allBare_setGen (L2.allBare_setGen hb1 hbare) rfl)
        · have := hR s' q
          rw [dj, List.any_cons] at this
          exact this
      | true =>
        simp only [if_true]
        refine wpAny_bind (wpAny_rule (wpAny_pure ?_))
        have := hR _ (hF _ _ st2)
        rw [dj, List.any_cons] at this
        exact this
    · exact absurd hp.1 (Nat.succ_ne_zero m)
theorem call_any_gen {P : Program} {w : World} {A : Around} {E : Value → Shared → Prop} {s : Shared} {a : Addr} {g : Nat} {bs : List Bool} {GS : Nat → Shared → Prop} {GF : Shared → Prop} {Q : Value → Shared → Prop} (hh : A.handled = none) (hd : A.depth + 3 < recursionLimit)
    (hgen : ∀ i s, GS i s → s.heap.IsGen a g ∧ s.heap.NoLimit ∧ AllBare s.gens)
    (hst : ∀ i s s', GS i s → (∀ b o, s.heap.get? b = some o → s'.heap.get? b = some o) → s'.os = s.os → AllBare s'.gens → GS i s')
    (hF : ∀ i s, GS i s → GF s) (hFb : ∀ s, GF s → AllBare s.gens) (hFk : ∀ s s', GF s → (∀ b o, s.heap.get? b = some o → s'.heap.get? b = some o) → s'.os = s.os → AllBare s'.gens → GF s')
    (st : GS 0 s) (hgs : ∃ gs, s.gens[g]? = some gs ∧ gs.Goes (model P w) A.in1.in1 (gE GF) (gY GS bs) bs.length (.send .none) (s.setGen g .running))
    (hQ : ∀ s', GF s' → Q (.bool (bs.any id)) s') : wpAny (model P w) A (call (.builtin "any") [.ref a]) Q E s := by
  refine call_function_tree F.kind_any F.plain_any F.entry_any (F.args_any1 _) ?_
  unfold Builtin.«any»
  refine wpAny_bind (m := oneArg "any" _) (wpAny_pure ?_)
  refine wpAny_bind (wpAny_pyIter_gen (hgen _ _ st).1 ?_)
  refine wpAny_pure ⟨plainId_quiet F.plain_any_loop _, any_loop (A := A) hh (by show A.depth < _; omega) hgen hst hF hFb hFk bs.length 0 s rfl (Nat.zero_le _) st (by rw [Nat.sub_zero]; exact hgs) fun s' q => ?_⟩
  have := hQ s' q
  rw [List.drop_zero]
  exact this
theorem boot_any1 : bootBuiltins "any" = some (.builtin "any") := by first | rfl | decide +kernel
section
variable {C : Cn} {τ : List Sl} {n : Nat} {pos : Pos} {Q : Av → List Sl → Nat → Prop}
theorem ex_anyG {c P : Addr} {x : Str} {j k : Nat} {px p gpos : Pos} {scope : Scope} {elt iter : Expr} (hr : Room (k + 4) C.X.A) (hz : Bl C.X "any") (TB : GxR.TabB C.X.base C.X.mg c P) (hPT : P ∈ C.W.T) (hcode : C.X.env.code = .ref c) (hc : C.X.calm = true) (hN : C.X.N.Nodup)
    (ok : BlkOk C.X.N C.X.env.scope scope [(x, j)]) (S : GSc scope x)
    (h : EI C τ n (.Name x px) iter fun ds τ1 n1 => (∀ es, τ1[j]? ≠ some (.ow es)) ∧ ∃ pd : PyData → Bool, (∀ d ∈ ds, ∀ s H cE cl code fp pn Aw, Room k Aw → EX (C.gen s H scope cE cl code fp pn Aw) ((wipeS τ1 [j]).set j (.st (.d d))) n1 elt
      fun y τ2 n2 => y = aB (pd d) ∧ τ2 = (wipeS τ1 [j]).set j (.st (.d d)) ∧ n2 = n1) ∧ Q (aB (ds.any pd)) τ1 n1)
    (hs : ∀ v, genFold iter C.X.env v = pure v := by intro _; rfl)
    (he : starEach [.GeneratorExp elt [⟨.Name x px, iter, [], 0⟩] scope gpos] C.X.env = (false, eval (.GeneratorExp elt [⟨.Name x px, iter, [], 0⟩] scope gpos) C.X.env) :: starEach [] C.X.env := by rfl) :
    EX C τ n (.Call (.Name "any" p) [.GeneratorExp elt [⟨.Name x px, iter, [], 0⟩] scope gpos] [] pos) Q := by
  intro pv σ G H R A kk pins s I
  refine wpAny_Call_Name_kw (ld_blt I hz.hg hz.hm boot_any1 ?_)
  refine PyProof.Rows.callWith_builtin1 ?_ he (by rfl)
  rw [he]
  show wpAny _ _ (spliced ((false, eval (.GeneratorExp elt [⟨.Name x px, iter, [], 0⟩] scope gpos) C.X.env) :: backTo pos (starEach [] C.X.env))) _ _ s
  refine Calls.spliced_cons (gen_mk (ti := RI C.X (.Name x px) iter) (own := [(x, j)]) (RR := fun J H1 => ∃ ds G1 τ1 n1, C.As pv σ G1 H1 τ1 n1 ∧ Ex G G1 ∧ SeqOk C J G1 ds ∧ ((∀ es, τ1[j]? ≠ some (.ow es)) ∧ ∃ pd : PyData → Bool, (∀ d ∈ ds, ∀ s H cE cl code fp pn Aw, Room k Aw → EX (C.gen s H scope cE cl code fp pn Aw) ((wipeS τ1 [j]).set j (.st (.d d))) n1 elt
      fun y τ2 n2 => y = aB (pd d) ∧ τ2 = (wipeS τ1 [j]).set j (.st (.d d)) ∧ n2 = n1) ∧ Q (aB (ds.any pd)) τ1 n1)) hr TB hcode hN ok S pi_ri hs I
    (h pv σ G H _ A fun J ds G1 H1 τ1 n1 A1 e1 sq q => ⟨A1.wi.1 P hPT, ds, G1, τ1, n1, A1, e1, sq, q⟩) fun J H1 H2 s4 s5 it fp tn code a g go rr tb I4 T ffp st os5 b5 gs5 hgen mk => ?_)
  obtain ⟨ds, G1, τ1, n1, A1, e1, sq, hno, pd, turn, fin⟩ := rr
  have A2 := As.tab A1 hPT tb
  generalize hcE : genEnv scope (cloFrom C.X.env.cells scope.names []) s4.heap.objs.size code builtinsNs C.X.env = cenv at gs5 mk
  have hrw : Room k (C.X.A.in1.in1.deeper cenv) := (((hr.mono (show k + 3 ≤ k + 4 by omega)).in1).in1).deeper cenv
  have hfr : (C.X.A.in1.in1.deeper cenv).frames = some (cenv :: C.X.stack) := Around.frames_deeper I.ok.frames
  have hhw : (C.X.A.in1.in1.deeper cenv).handled = none := hrw.hd
  have J5 := mk (C.X.A.in1.in1.deeper cenv) hhw hfr
  generalize hXg : gX C.X s4 H2 cenv fp [(a, go)] (C.X.A.in1.in1.deeper cenv) = Xg at J5
  have xA : Xg.A = C.X.A.in1.in1.deeper cenv := by rw [← hXg]
  have xP : Xg.prog = C.X.prog := by rw [← hXg]
  have xw : Xg.w = C.X.w := by rw [← hXg]
  have xK : Xg.K = C.X.K := by rw [← hXg]
  have xc : Xg.calm = true := by rw [← hXg]; exact hc
  have xE : Xg.env = cenv := by rw [← hXg]
  have xpn : Xg.pn = [(a, go)] := by rw [← hXg]
  let GS : Nat → Shared → Prop := fun i s' => ∃ G' H', Inv Xg [] (wipe σ [j]) H' s' ∧ C.As pv σ G' H' τ1 n1 ∧ Ex G1 G' ∧ tn i s'.heap ∧ ∀ b ∈ fp, H' b = none
  have hst : ∀ i s s', GS i s → (∀ b o, s.heap.get? b = some o → s'.heap.get? b = some o) → s'.os = s.os → AllBare s'.gens → GS i s' := fun i s s' ⟨G', H', J', A', e', t', f'⟩ hk ho hb =>
    ⟨G', H', J'.call' (ch := []) ho (Un.kept hk) (J'.hok.kept hk) hb (fun b z => absurd z (by simp)), A', e', T.keep _ _ _ t' fun b _ o q => hk b o q, f'⟩
  let GF : Shared → Prop := fun s' => ∃ G' H', Inv Xg [] (wipe σ [j]) H' s' ∧ C.As pv σ G' H' τ1 n1 ∧ Ex G1 G'
  have hF : ∀ i s, GS i s → GF s := fun i s ⟨G', H', J', A', e', _⟩ => ⟨G', H', J', A', e'⟩
  have hFb : ∀ s, GF s → AllBare s.gens := fun s ⟨G', H', J', _⟩ => J'.bare
  have hFk : ∀ s s', GF s → (∀ b o, s.heap.get? b = some o → s'.heap.get? b = some o) → s'.os = s.os → AllBare s'.gens → GF s' := fun s s' ⟨G', H', J', A', e'⟩ hk ho hb =>
    ⟨G', H', J'.call' (ch := []) ho (Un.kept hk) (J'.hok.kept hk) hb (fun b z => absurd z (by simp)), A', e'⟩
  have hgen' : ∀ i s, GS i s → s.heap.IsGen a g ∧ s.heap.NoLimit ∧ AllBare s.gens := fun i s ⟨G', H', J', _⟩ =>
    ⟨hgen _ (J'.pin (a, go) (by rw [xpn]; simp)).1, J'.nolimit, J'.bare⟩
  have stat : ∀ {s' : Shared} {H' : Hp}, Inv Xg [] (wipe σ [j]) H' s' → (∀ b ∈ fp, H' b = none) → ∀ b ∈ fp, FpOk Xg [] H' b := fun {s' H'} J' hn b hb => by
    refine ⟨hn b hb, ?_, ?_, .inl (by rw [← hXg]; exact hb), ?_, fun p hp z => ?_⟩
    · exact (J'.ok.exf b (by rw [← hXg]; exact hb)).1
    · exact J'.ok.exfs b (by rw [← hXg]; exact hb)
    · exact (J'.ok.exf b (by rw [← hXg]; exact hb)).2
    · rw [xpn] at hp
      have hp : p = (a, go) := by simpa using hp
      subst hp
      exact (ffp b hb).2 z.symm
  have lm : Lm Xg j x := ⟨by rw [← hXg]; exact ok.ix (x, j) (by simp), by rw [← hXg, ← hcE]; exact .inl S.loc, .inr (by rw [← hXg, ← hcE]; exact S.loc)⟩
  have xNd : Xg.N.Nodup := by rw [← hXg]; exact hN
  have keepO : ∀ (i : Nat) es, τ1[i]? = some (.ow es) → i ∉ [j] := fun i es q hj => by
    have hj : i = j := by simpa using hj
    subst hj
    exact hno es q
  -- the turns
  have hco : ∀ v, yieldOut cenv v = yieldValue v := fun v => by rw [← hcE]; simp only [yieldOut, genEnv, S.co, Bool.false_eq_true, if_false]
  have hlen : (ds.map pd).length = ds.length := List.length_map ..
  have seg : ∀ (k' i : Nat) (s0 s' : Shared), ds.length - i = k' → i ≤ ds.length → GS i s' → Seg (model C.X.prog C.X.w) C.X.A.in1.in1 (gE GF) (gY GS (ds.map pd)) (ds.length - i) s0
      (.compLoop (.GeneratorExp elt [⟨.Name x px, iter, [], 0⟩] scope gpos) 0 (.ref it) .none cenv) ((model C.X.prog C.X.w).den (.compLoop (.GeneratorExp elt [⟨.Name x px, iter, [], 0⟩] scope gpos) 0 (.ref it) .none cenv)) [] s' := by
    intro k'
    induction k' with
    | zero =>
      intro i s0 s' hk hi ⟨G', H', J', A', e', t', f'⟩
      have hin : i = ds.length := by omega
      subst hin
      rw [Nat.sub_self]
      show Seg _ C.X.A.in1.in1 _ _ _ s0 _ ((compTurn (.GeneratorExp elt [⟨.Name x px, iter, [], 0⟩] scope gpos) 0 (.ref it) .none cenv).onRaise (leaving cenv)) [] s'
      rw [compTurn_gen, Sem.onRaise_eq_wrap]
      refine seg_bind_wrap (wpAny_standAt ?_)
      refine seg_bind_wrap ?_
      rw [over_cl, ← xA]
      refine wpAny_mono (T.done Xg xP xw xK xc _ [] s' _ H' (fun _ _ => False) J' (stat J' f') t' (sq.stop _ _ _ _ _ _ _ A' e' (Nat.le_refl _))) (fun r s1 hr => ?_) fun _ _ z => z.elim
      obtain ⟨rfl, J1⟩ := hr
      exact seg_end (.ok .next) ⟨rfl, rfl, _, _, J1, A', e'⟩
    | succ k' ih =>
      intro i s0 s' hk hi ⟨G', H', J', A', e', t', f'⟩
      have hlt : i < ds.length := by omega
      obtain ⟨m, hm⟩ : ∃ m, ds.length - i = m + 1 := ⟨ds.length - i - 1, by omega⟩
      rw [hm]
      have hd : ds[i]? = some ds[i] := List.getElem?_eq_getElem hlt
      obtain ⟨go1, yld⟩ := sq.go pv σ G' H' τ1 n1 i _ A' e' hd
      show Seg _ C.X.A.in1.in1 _ _ _ s0 _ ((compTurn (.GeneratorExp elt [⟨.Name x px, iter, [], 0⟩] scope gpos) 0 (.ref it) .none cenv).onRaise (leaving cenv)) [] s'
      rw [compTurn_gen, Sem.onRaise_eq_wrap]
      refine seg_bind_wrap (wpAny_standAt ?_)
      refine seg_bind_wrap ?_
      rw [over_cl, ← xA]
      refine wpAny_mono (T.item Xg xP xw xK xc i [] s' _ H' (fun _ _ => False) J' (stat J' f') t' go1) (fun r s1 hr => ?_) fun _ _ z => z.elim
      obtain ⟨u, rfl, h4⟩ := hr
      refine seg_bind_wrap ?_
      rw [over_cl, ← xA]
      refine wpAny_mono h4 (fun _ s2 h2 => ?_) fun _ _ z => z.elim
      obtain ⟨xv, H3, I3, r3, y3, st3, fr3⟩ := h2
      obtain ⟨G3, A3, e3, r3d⟩ := yld xv H3 y3
      have I3' := I3.pinned (stat I3 fr3) (T.obj _ _ st3)
      refine seg_bind_wrap ?_
      rw [over_cl, ← xA]
      have tgr := (tg_name (p := px) xNd lm).run C.WK C.G0 C.H0 pv (wipe σ [j]) G3 H3 (wipeS τ1 [j]) n1 xv ds[i] (fun σ' H8 => H8 = H3 ∧ C.As pv σ' G3 H3 ((wipeS τ1 [j]).set j (.st (.d ds[i]))) n1 ∧ wipe σ' [j] = wipe σ [j] ∧ ∀ i', i' ∉ [j] → σ'[i']? = σ[i']?)
        xK.symm (A3.wipe [j]) r3d trivial fun σ' A8 hw hk8 => ⟨rfl, A8, by rw [hw]; exact wipe_wipe σ [j], fun i' hi' => by rw [hk8 i' hi', wipe_ne hi']⟩
      have tgr2 := tgr _ s2 u I3' r3
      rw [xP, xw, xE] at tgr2
      refine wpAny_mono tgr2 (fun _ s8 h8 => ?_) fun e s z => (by rw [← hXg] at z; exact z.elim)
      obtain ⟨σ8, H8, I8, eH, A8, hw8, hk8⟩ := h8
      rw [eH] at I8
      simp only [List.forIn_nil]
      refine seg_bind_wrap (wpAny_pure ?_)
      simp only [if_true, hco]
      rw [Sem.bind_eq_wrap', Sem.bind_eq_wrap', Sem.wrap_wrap, Sem.wrap_wrap]
      refine seg_wrap ?_
      rw [over_cl, ← xA]
      have er : RE Xg elt σ8 H3 (fun y H9 => y = V.bl (pd ds[i]) ∧ ∃ G9, C.As pv σ8 G9 H9 ((wipeS τ1 [j]).set j (.st (.d ds[i]))) n1 ∧ Ex G3 G9) := by
        have tt := turn ds[i] (List.getElem_mem hlt) s4 H2 s4.heap.objs.size (cloFrom C.X.env.cells scope.names []) code fp [(a, go)] (C.X.A.in1.in1.deeper cenv) hrw
        have t2 := tt pv σ8 G3 H3 (fun y H9 => y = V.bl (pd ds[i]) ∧ ∃ G9, C.As pv σ8 G9 H9 ((wipeS τ1 [j]).set j (.st (.d ds[i]))) n1 ∧ Ex G3 G9) A8 fun v y G9 H9 τ9 n9 A9 e9 r9 ⟨ey, et, en⟩ => by
          subst ey et en
          exact ⟨r9.bool, G9, A9, e9⟩
        rw [← hXg, ← hcE]
        rw [← hcE] at t2
        exact t2
      have e2 := er _ s8 I8
      rw [xP, xw, xE] at e2
      refine wpAny_mono e2 (fun y s9 h9 => ?_) fun e s z => (by rw [← hXg] at z; exact z.elim)
      obtain ⟨v9, H9, I9, rv9, ev9, G9, A9, e9⟩ := h9
      subst ev9
      have ey : y = Value.bool (pd ds[i]) := rv9
      subst ey
      have hl : (wipe σ [j]).length = σ8.length := by
        have := congrArg List.length hw8
        rw [wipe_length, wipe_length] at this
        rw [wipe_length]; exact this.symm
      have g9 : GS (i + 1) s9 := by
        have pin' : ∀ b ∈ fp, ∀ o, s2.heap.get? b = some o → s9.heap.get? b = some o ∧ H9 b = none := fun b hb o e =>
          let z := I9.pin (b, o) (List.mem_append_right _ (List.mem_append_right _ (mem_pinsAt hb e)))
          ⟨z.1, z.2.1⟩
        refine ⟨G9, H9, (I9.unpinned (pins := [])).weak hl (fun q v e => ?_), A3.rewind A9 e9 fun q es hq => ?_, (e'.trans e3).trans e9, T.keep _ _ _ st3 fun b hb o e => (pin' b hb o e).1, fun b hb => ?_⟩
        · rw [← hw8] at e
          exact (wipe_some e).1
        · have hj := keepO q es hq
          refine ⟨?_, ?_⟩
          · rw [List.getElem?_set_ne (fun z => hj (by simp [z])), wipeS_ne hj]; exact hq
          · exact hk8 q hj
        · obtain ⟨o, e, _⟩ := T.obj _ _ st3 b hb
          exact (pin' b hb o e).2
      refine seg_at (seg_yield rfl rfl rfl ⟨i, pd ds[i], by rw [hlen]; omega, by rw [List.getElem?_map, hd]; rfl, rfl, g9, fun s'' e1 e2 e3 => ?_⟩)
      have hm' : ds.length - (i + 1) = m := by omega
      rw [← hm']
      exact seg_again rfl (ih (i + 1) s'' s'' (by omega) hlt (hst _ _ _ g9 (fun b o q => by rw [e1]; exact q) e2 e3))
  have g0 : GS 0 s5 := ⟨G1, H2, J5, A2, Ex.refl _, st, fun b hb => (ffp b hb).1.1⟩
  refine Calls.spliced_nil ?_
  refine call_any_gen (GS := GS) (GF := GF) (bs := ds.map pd) (g := g) hr.hd (by have := hr.dp; omega) hgen' hst hF hFb hFk g0 ⟨_, gs5, rfl, ?_⟩ fun s' ⟨G', H', J', A', e'⟩ => ?_
  · have g1 : GS 0 (s5.setGen g .running) := hst _ _ _ g0 (fun b o q => q) rfl (L2.allBare_setGen b5 rfl)
    have loop := seg ds.length 0 (s5.setGen g .running) (s5.setGen g .running) rfl (Nat.zero_le _) g1
    rw [Nat.sub_zero, ← hlen] at loop
    show Seg _ C.X.A.in1.in1 _ _ _ _ _ ((compStart (.GeneratorExp elt [⟨.Name x px, iter, [], 0⟩] scope gpos) 0 (.ref it) .none cenv).onRaise (leaving cenv)) [] _
    unfold compStart
    rw [Sem.onRaise_eq_wrap]
    show Seg _ C.X.A.in1.in1 _ _ _ _ _ ((ask >>= _).wrap _ _ _ _) [] _
    refine seg_bind_wrap (wpAny_askSetting ?_)
    split
    · exact seg_again rfl loop
    · refine seg_bind_wrap (wpAny_rule ?_)
      show Seg _ C.X.A.in1.in1 _ _ _ _ _ ((standAt iter.pos >>= _).wrap _ _ _ _) [] _
      exact seg_bind_wrap (wpAny_standAt (seg_bind_wrap (T.self _ 0 _ _ _ st (seg_again rfl loop))))
  · have I' : Inv C.X pins σ H' s' := I4.call' (ch := fp) ?_ ?_ (by have := J'.hok; rw [xP, xw] at this; exact this) J'.bare fun b hb => ?_
    · refine ⟨.bl _, H', I', rfl, ?_⟩
      have eb : (ds.map pd).any id = ds.any pd := by rw [List.any_map]; rfl
      rw [eb]
      exact kk _ (aB _) G' H' τ1 n1 A' (e1.trans e') (rv_bool _) fin
    · have := J'.os
      rw [← hXg] at this
      exact this
    · have := J'.base
      rw [← hXg] at this
      exact this
    · have f := (ffp b hb).1
      exact ⟨f.2.2.2.1, f.2.1, f.2.2.2.2.1, f.2.2.2.2.2⟩
end
end M

set_option Elab.async false
set_option linter.all false
set_option maxRecDepth 100000
set_option maxHeartbeats 4000000
namespace M
open PySem PySem.Spec PyProof.Rows L2
section
variable {C : Cn} {τ : List Sl} {n : Nat} {QI : List PyData → List Sl → Nat → Prop} {e e2 : Expr} {pos : Pos}
/-- for a, b in zip(xs, ys): two told lists -/
theorem ei_zip {p tpos : Pos} {elts : List Expr} {kk : Nat} (hz : Bl C.X "zip") (h : EA C τ n [e, e2] fun xs τ1 n1 => ∃ ds es, xs = [.d (.list ds), .d (.list es)] ∧ QI ((ds.zip es).map fun p => PyData.tuple [p.1, p.2]) τ1 n1)
    (hs : starEach [e, e2] C.X.env = (false, eval e C.X.env) :: starEach [e2] C.X.env := by rfl) (hpl : (backTo pos (starEach [e2] C.X.env)).any (·.1) = false := by rfl) : EI C τ n (.Tuple elts kk tpos) (.Call (.Name "zip" p) [e, e2] [] pos) QI := by
  intro pv σ G H R A k
  refine ri_of (pi_zip hz.hg hz.hm pa_ra hs hpl) ?_
  refine h pv σ G H _ A fun vs xs G1 H1 τ1 n1 A1 e1 r1 ⟨ds, es, ex, q⟩ => ?_
  subst ex
  obtain ⟨v, v2, rfl, r, r2⟩ := rvAll2 r1
  obtain ⟨l, ys, rfl, hl, d1⟩ := r.list
  obtain ⟨l2, ys2, rfl, hl2, d2⟩ := r2.list
  refine ⟨l, l2, ys, ys2, rfl, SqL.of (A1.gh _ _ hl), SqL.of (A1.gh _ _ hl2), k _ _ G1 H1 τ1 n1 A1 e1 ⟨fun pv σ G2 H2 τ n i d' A e hi => ?_, fun pv σ G2 H2 τ n i A e hi => ⟨ys, ys2, SqL.of (A.gh _ _ (e _ _ hl)), SqL.of (A.gh _ _ (e _ _ hl2)), ?_⟩⟩ q⟩
  · rw [List.getElem?_map] at hi
    cases hq : (ds.zip es)[i]? with
    | none => rw [hq] at hi; cases hi
    | some p =>
      rw [hq] at hi
      have hi : PyData.tuple [p.1, p.2] = d' := Option.some.inj hi
      subst hi
      obtain ⟨g1, g2⟩ := List.getElem?_zip_eq_some.mp hq
      obtain ⟨w1, h1, r1⟩ := dpa_get d1 g1
      obtain ⟨w2, h2, r2⟩ := dpa_get d2 g2
      have hsq : SqL C.X.K H2 l ys := SqL.of (A.gh _ _ (e _ _ hl))
      have hsq2 : SqL C.X.K H2 l2 ys2 := SqL.of (A.gh _ _ (e _ _ hl2))
      refine ⟨⟨ys, ys2, w1, w2, hsq, hsq2, h1, h2⟩, fun x H' y => ?_⟩
      obtain ⟨T, x1, x2, rfl, hT, rfl, y1, y2⟩ := y
      have q1 := y1 ys hsq
      have q2 := y2 ys2 hsq2
      rw [h1] at q1
      rw [h2] at q2
      cases q1
      cases q2
      have ex : Ex G2 (upd G2 T (.tup [w1, w2])) := Ex.new (A.freshG hT)
      exact ⟨_, A.new hT, ex, .tup (SqT.of upd_same) (.cons (dp_ex (e.trans ex) _ _ r1) (.cons (dp_ex (e.trans ex) _ _ r2) .nil))⟩
  · simp at hi
    rw [dpa_len d1, dpa_len d2]
    omega
end
end M

set_option Elab.async false
set_option linter.all false
set_option maxRecDepth 100000
set_option maxHeartbeats 4000000
namespace M
open PySem PySem.Spec PyProof.Rows L2
section
variable {C : Cn} {τ : List Sl} {n : Nat} {Q : Av → List Sl → Nat → Prop} {e a : Expr} {es : List Expr} {pos : Pos} {xs : List Av}
theorem boot_intT : bootBuiltins "int" = some (.type "int") := by first | rfl | decide +kernel
theorem rc_sum (h : ∃ ns, xs = [aL ns] ∧ Q (aI ns.sum) τ n) : RC C (rSum C.X.K) xs τ n Q := by
  intro pv σ G H R vs A rv k
  obtain ⟨ns, rfl, q⟩ := h
  obtain ⟨v, rfl, r1⟩ := rvAll1 rv
  obtain ⟨m, ys, rfl, h1, d1⟩ := r1.list
  have e := dpa_ints d1
  subst e
  exact ⟨m, ns, rfl, SqL.of (A.gh _ _ h1), k _ _ G H τ n A (Ex.refl _) (rv_int _) q⟩
/-- sum of a list of ints -/
theorem ex_sum {p : Pos} (hc : C.X.calm = true) (hz : Bl C.X "sum") (h : EA C τ n [e] fun xs τ1 n1 => ∃ ns, xs = [aL ns] ∧ Q (aI ns.sum) τ1 n1)
    (he : starEach [e] C.X.env = (false, eval e C.X.env) :: starEach [] C.X.env := by rfl) : EX C τ n (.Call (.Name "sum" p) [e] [] pos) Q :=
  ex_callB (id := "sum") (cr_sum hc) hz boot_sum1 (fun pv σ G H R A k => h pv σ G H R A fun vs xs G' H' τ' n' A' e' r q => k vs xs G' H' τ' n' A' e' r (rc_sum q)) (by decide) (by decide) he (by rfl)
theorem rc_min2 (h : ∃ i j, xs = [aI i, aI j] ∧ Q (aI (if j < i then j else i)) τ n) : RC C (fun xs H Q => ∃ i j, xs = [.int i, .int j] ∧ Q (.int (if j < i then j else i)) H) xs τ n Q := by
  intro pv σ G H R vs A rv k
  obtain ⟨i, j, rfl, q⟩ := h
  obtain ⟨v, u, rfl, r1, r2⟩ := rvAll2 rv
  rw [r1.int, r2.int]
  exact ⟨i, j, rfl, k _ _ G H τ n A (Ex.refl _) (rv_int _) q⟩
/-- min of two ints -/
theorem ex_min2 {p : Pos} (hc : C.X.calm = true) (hz : Bl C.X "min") (h : EA C τ n [e, a] fun xs τ1 n1 => ∃ i j, xs = [aI i, aI j] ∧ Q (aI (if j < i then j else i)) τ1 n1)
    (he : starEach [e, a] C.X.env = (false, eval e C.X.env) :: starEach [a] C.X.env := by rfl) (hpl : (backTo pos (starEach [a] C.X.env)).any (·.1) = false := by rfl) : EX C τ n (.Call (.Name "min" p) [e, a] [] pos) Q :=
  ex_callB (id := "min") (call_min2 hc) hz boot_min1 (fun pv σ G H R A k => h pv σ G H R A fun vs xs G' H' τ' n' A' e' r q => k vs xs G' H' τ' n' A' e' r (rc_min2 q)) (by decide) (by decide) he hpl
theorem rc_intB (h : (∃ i, xs = [aI i] ∧ Q (aI i) τ n) ∨ ∃ b, xs = [aB b] ∧ Q (aI (if b then 1 else 0)) τ n) : RC C (fun xs H Q => (∃ i, xs = [.int i] ∧ Q (.int i) H) ∨ ∃ k, xs = [.bl k] ∧ Q (.int (if k then 1 else 0)) H) xs τ n Q := by
  intro pv σ G H R vs A rv k
  rcases h with ⟨i, rfl, q⟩ | ⟨b, rfl, q⟩
  · obtain ⟨v, rfl, r1⟩ := rvAll1 rv
    rw [r1.int]
    exact .inl ⟨i, rfl, k _ _ G H τ n A (Ex.refl _) (rv_int _) q⟩
  · obtain ⟨v, rfl, r1⟩ := rvAll1 rv
    rw [r1.bool]
    exact .inr ⟨b, rfl, k _ _ G H τ n A (Ex.refl _) (rv_int _) q⟩
/-- int of an int or of a bool -/
theorem ex_intB {p : Pos} (hz : Bl C.X "int") (h : EA C τ n [e] fun xs τ1 n1 => (∃ i, xs = [aI i] ∧ Q (aI i) τ1 n1) ∨ ∃ b, xs = [aB b] ∧ Q (aI (if b then 1 else 0)) τ1 n1)
    (he : starEach [e] C.X.env = (false, eval e C.X.env) :: starEach [] C.X.env := by rfl) : EX C τ n (.Call (.Name "int" p) [e] [] pos) Q :=
  ex_callT (T := "int") call_int1 hz boot_intT (fun pv σ G H R A k => h pv σ G H R A fun vs xs G' H' τ' n' A' e' r q => k vs xs G' H' τ' n' A' e' r (rc_intB q)) (by decide) (by decide) he (by rfl)
end
end M

set_option Elab.async false
set_option linter.all false
set_option maxRecDepth 100000
set_option maxHeartbeats 4000000
namespace M
open PySem PySem.Spec PyProof.Rows L2
/-! ### the script as it is handed to a law: a list of ints that may be frozen (Av.sc) -/
section
variable {C : Cn} {τ : List Sl} {n : Nat} {Q : Av → List Sl → Nat → Prop} {e a b : Expr} {es : List Expr} {pos : Pos} {xs : List Av}
theorem rc_lenSc (h : ∃ ns, xs = [.sc ns] ∧ Q (aI ns.length) τ n) : RC C (fun xs H Q => ∃ p ys, xs = [.ref p] ∧ (SqL C.X.K H p ys ∨ SqT C.X.K H p ys) ∧ Q (.int ys.length) H) xs τ n Q := by
  intro pv σ G H R vs A rv k
  obtain ⟨ns, rfl, q⟩ := h
  obtain ⟨v, rfl, r1⟩ := rvAll1 rv
  obtain ⟨m, rfl, h1⟩ := r1
  refine ⟨m, ns.map V.int, rfl, .inl (ex_l A.gh h1), ?_⟩
  rw [List.length_map]
  exact k _ _ G H τ n A (Ex.refl _) (rv_int _) q
theorem ex_lenSc {p : Pos} (hz : Bl C.X "len") (h : EA C τ n (e :: es) fun xs τ1 n1 => ∃ ns, xs = [.sc ns] ∧ Q (aI ns.length) τ1 n1)
    (he : starEach (e :: es) C.X.env = (false, eval e C.X.env) :: starEach es C.X.env := by rfl) (hpl : (backTo pos (starEach es C.X.env)).any (·.1) = false := by rfl) : EX C τ n (.Call (.Name "len" p) (e :: es) [] pos) Q :=
  ex_callB (id := "len") call_len_seq hz boot_len1 (fun pv σ G H R A k => h pv σ G H R A fun vs xs G' H' τ' n' A' e' r q => k vs xs G' H' τ' n' A' e' r (rc_lenSc q)) (by decide) (by decide) he hpl
theorem ex_ixSc (hs : PlainIx b) (h : EX C τ n a fun x τ1 n1 => EX C τ1 n1 b fun y τ2 n2 => ∃ ns i m, x = .sc ns ∧ y = aI i ∧ atI ns i = some m ∧ Q (aI m) τ2 n2) : EX C τ n (.Subscript a b pos) Q := by
  intro pv σ G H R A k
  refine re_of (pe_ix ix_list pe_re pe_re hs) ?_
  refine h pv σ G H _ A fun v x G1 H1 τ1 n1 A1 e1 r1 h1 => ?_
  refine h1 pv σ G1 H1 _ A1 fun u y G2 H2 τ2 n2 A2 e2 r2 h2 => ?_
  obtain ⟨ns, i, m, rfl, rfl, hi, q⟩ := h2
  obtain ⟨p, rfl, hp⟩ := r1.ex e2
  have hv : atI (ns.map V.int) i = some (.int m) := by
    unfold atI at hi ⊢
    rw [List.length_map]
    cases hq : ixN ns.length i with
    | none => rw [hq] at hi; cases hi
    | some j =>
      rw [hq] at hi
      have hi : ns[j]? = some m := hi
      show (ns.map V.int)[j]? = some (V.int m)
      rw [List.getElem?_map, hi]; rfl
  exact ⟨p, _, i, .int m, rfl, r2.int, ex_l A2.gh hp, hv, k _ _ G2 H2 τ2 n2 A2 (e1.trans e2) (rv_int _) q⟩
/-! ### a constant of the module that is a tuple (of tuples) of told data -/
/-- the module's name x stands for the told data d -/
def Kd (X : Cx) (x : Str) (d : PyData) : Prop := Gl X x ∧ (x == ("__debug__" : Str)) = false ∧ ∃ v, X.mg x = some v ∧ ∃ u, RelV u v ∧ ∀ G, Dt X.K G u d
theorem ex_kd {x : Str} {d : PyData} (g : Kd C.X x d) (q : Q (.d d) τ n) : EX C τ n (.Name x pos) Q := by
  obtain ⟨hg, hd, v, hm, u, rel, dt⟩ := g
  intro pv σ G H R A k pins s I
  exact ld_glob I hg hm ⟨u, H, I, rel, k _ _ G H τ n A (Ex.refl _) (show Rv C.WK G u (.d d) from dt G) q⟩ hd
end
mutual
/-- the value v of the module is the told data d: looked up in the head's fragment -/
def kdB (K : PySem.W.Frag) : PyData → Value → Bool
  | .none, .none => true
  | .bool b, .bool c => decide (b = c)
  | .int i, .int j _ => decide (i = j)
  | .str x, .str y _ => decide (x = y)
  | .tuple ds, .ref a => match K.lookup a with
    | some o => decide (o.cls = .type "tuple") && match o.data with
      | .seq its _ => decide (its.size ≤ sizeLine) && kdAll K ds its.toList
      | _ => false
    | none => false
  | _, _ => false
def kdAll (K : PySem.W.Frag) : List PyData → List Value → Bool
  | [], [] => true
  | d :: ds, v :: vs => kdB K d v && kdAll K ds vs
  | _, _ => false
end
mutual
theorem kd_ok {K : PySem.W.Frag} : ∀ (d : PyData) (v : Value), kdB K d v = true → ∃ u, RelV u v ∧ ∀ G, Dt K G u d
  | .none, v, h => by
    cases v <;> simp [kdB] at h
    exact ⟨.non, rfl, fun _ => .non⟩
  | .bool b, v, h => by
    cases v <;> simp [kdB] at h
    subst h
    exact ⟨.bl _, rfl, fun _ => .bl _⟩
  | .int i, v, h => by
    cases v <;> simp [kdB] at h
    subst h
    exact ⟨.int _, ⟨_, rfl⟩, fun _ => .int _⟩
  | .str x, v, h => by
    cases v <;> simp [kdB] at h
    subst h
    exact ⟨.str _, ⟨_, rfl⟩, fun _ => .str _⟩
  | .tuple ds, v, h => by
    cases v with
    | ref a =>
      simp only [kdB] at h
      cases hk : K.lookup a with
      | none => rw [hk] at h; cases h
      | some o =>
        rw [hk] at h
        cases hd : o.data with
        | seq its m =>
          simp only [hd, Bool.and_eq_true, decide_eq_true_eq] at h
          obtain ⟨hc, hs, ha⟩ := h
          obtain ⟨us, r, dt⟩ := kdAll_ok ds its.toList ha
          exact ⟨.ref a, rfl, fun G => .tup (.inr ⟨o, its, m, hk, hc, hd, hs, r⟩) (dt G)⟩
        | _ => simp [hd] at h
    | _ => simp [kdB] at h
  | .list ds, v, h => by cases v <;> simp [kdB] at h
  | .dict ds, v, h => by cases v <;> simp [kdB] at h
theorem kdAll_ok {K : PySem.W.Frag} : ∀ (ds : List PyData) (vs : List Value), kdAll K ds vs = true → ∃ us, Vals us vs ∧ ∀ G, DtAll K G us ds
  | [], [], _ => ⟨[], .nil, fun _ => .nil⟩
  | d :: ds, v :: vs, h => by
    simp only [kdAll, Bool.and_eq_true] at h
    obtain ⟨u, r, dt⟩ := kd_ok d v h.1
    obtain ⟨us, rs, dts⟩ := kdAll_ok ds vs h.2
    exact ⟨u :: us, .cons r rs, fun G => .cons (dt G) (dts G)⟩
  | [], _ :: _, h => by simp [kdAll] at h
  | _ :: _, [], h => by simp [kdAll] at h
end
end M

set_option Elab.async false
set_option linter.all false
set_option maxRecDepth 100000
set_option maxHeartbeats 4000000
namespace M
open PySem PySem.Spec PyProof.Rows L2
/-! ### a law without a purse: the law is a def like another, its script told as Av.sc -/
/-- what such a law is asked -/
def spLawS (K : PySem.W.Frag) (T : List Addr) : Sp := fun vs H Q _ => ∃ (a : Addr) (ns : List Int), vs = [.ref a] ∧ SqL K H a (ns.map V.int) ∧ (∀ z ∈ ns, Builtin.Int.intBits z ≤ 1048576) ∧ (∀ p ∈ T, GxR.TabG H p) ∧ ∀ H', Q (.bl true) H'
abbrev aspLw : ASp := fun xs n R _ => ∃ ns : List Int, xs = [.sc ns] ∧ (∀ z ∈ ns, Builtin.Int.intBits z ≤ 1048576) ∧ ∀ n', R (aB true) n'
/-- the stable part at the law's start: the script, where it is tracked -/
theorem sc_start {K : PySem.W.Frag} {T : List Addr} {L : Nat} {H : Hp} {a : Addr} {xs : List V} (hS : SqL K H a xs) (hT : ∀ p ∈ T, GxR.TabG H p) : ∃ G, Sta ⟨K, T, none, L⟩ G H ∧ SqL K G a xs := by
  have out : ∀ o, H a = some o → (∀ q, o ≠ .tbl q) → ¬ (⟨K, T, none, L⟩ : Wo).U a := fun o ho ht u => by
    rcases u with h | ⟨p, e, _⟩
    · obtain ⟨ps, e, _⟩ := hT a h
      rw [ho] at e
      exact ht ps (Option.some.inj e)
    · cases e
  have mk : ∀ o, H a = some o → (∀ q, o ≠ .tbl q) → ∃ G : Hp, Sta ⟨K, T, none, L⟩ G H ∧ G a = some o := fun o ho ht =>
    ⟨fun b => if b = a then some o else none, fun b u e => by
      by_cases hb : b = a
      · subst hb
        simp at e
        subst e
        exact ⟨out _ ho ht, ho⟩
      · simp [hb] at e, by simp⟩
  rcases hS with (h | ⟨o, h⟩) | h
  · obtain ⟨G, s, e⟩ := mk _ h (fun q z => nomatch z)
    exact ⟨G, s, .inl (.inl e)⟩
  · obtain ⟨G, s, e⟩ := mk _ h (fun q z => nomatch z)
    exact ⟨G, s, .inl (.inr ⟨o, e⟩)⟩
  · exact ⟨fun _ => none, (fun b u e => by cases e), .inr h⟩
theorem lawS_imp {K : PySem.W.Frag} {T : List Addr} {vs : List V} {H : Hp} {Q : VK} {E : XK} (h : spLawS K T vs H Q E) : spOf ⟨K, T, none, 1⟩ aspLw vs H Q E := by
  obtain ⟨a, ns, rfl, hS, hb, hT, hQ⟩ := h
  obtain ⟨G, sta, hG⟩ := sc_start (L := 1) hS hT
  refine ⟨G, [.sc ns], 0, fun x _ => x = aB true, fun _ _ => False, sta, ⟨hT, fun p e => by cases e⟩, .cons ⟨a, rfl, hG⟩ .nil, ⟨ns, rfl, hb, fun _ => rfl⟩, fun v x n' G' H' _ _ r e => ?_, fun _ _ _ _ _ _ z => z.elim⟩
  subst e
  rw [r.bool]
  exact hQ H'
/-- the law's promise from its promise as a def -/
theorem lawS_ok {P : Program} {w : World} {K : PySem.W.Frag} {mg : Str → Option Value} {base : Heap} {k : Nat} {f : Addr} {fd : FuncData} {ps : List Str} {T : List Addr} (F : FnOk P w K mg base (CX P w) k f fd ps (spOf { (⟨K, T, none, 1⟩ : Wo) with K := K } aspLw)) :
    FnOk P w K mg base (CX P w) k f fd ps (spLawS K T) := F.imp fun _ _ _ _ h => lawS_imp h
end M

set_option Elab.async false
set_option linter.all false
set_option maxRecDepth 100000
set_option maxHeartbeats 4000000
namespace M
open PySem PySem.Spec PyProof.Rows L2
section
variable {C : Cn} {τ : List Sl} {n : Nat} {Q : Av → List Sl → Nat → Prop} {e a b : Expr} {es : List Expr} {pos : Pos} {xs : List Av}
def lenA : Av → Option Nat
  | .d (.list ds) => some ds.length
  | .d (.tuple ds) => some ds.length
  | .sc ns => some ns.length
  | _ => none
theorem rc_lenA (h : ∃ x m, xs = [x] ∧ lenA x = some m ∧ Q (aI m) τ n) : RC C (fun xs H Q => ∃ p ys, xs = [.ref p] ∧ (SqL C.X.K H p ys ∨ SqT C.X.K H p ys) ∧ Q (.int ys.length) H) xs τ n Q := by
  obtain ⟨x, m, rfl, hm, q⟩ := h
  cases x with
  | d d =>
    cases d with
    | list ds =>
      cases hm
      exact rc_len ⟨ds, .inl rfl, q⟩
    | tuple ds =>
      cases hm
      exact rc_len ⟨ds, .inr rfl, q⟩
    | _ => cases hm
  | sc ns =>
    cases hm
    exact rc_lenSc ⟨ns, rfl, q⟩
  | _ => cases hm
/-- len of a told list or tuple, or of the script -/
theorem ex_lenA {p : Pos} (hz : Bl C.X "len") (h : EA C τ n (e :: es) fun xs τ1 n1 => ∃ x m, xs = [x] ∧ lenA x = some m ∧ Q (aI m) τ1 n1)
    (he : starEach (e :: es) C.X.env = (false, eval e C.X.env) :: starEach es C.X.env := by rfl) (hpl : (backTo pos (starEach es C.X.env)).any (·.1) = false := by rfl) : EX C τ n (.Call (.Name "len" p) (e :: es) [] pos) Q :=
  ex_callB (id := "len") call_len_seq hz boot_len1 (fun pv σ G H R A k => h pv σ G H R A fun vs xs G' H' τ' n' A' e' r q => k vs xs G' H' τ' n' A' e' r (rc_lenA q)) (by decide) (by decide) he hpl
end
end M

set_option Elab.async false
set_option linter.all false
set_option maxRecDepth 100000
set_option maxHeartbeats 4000000
namespace M
open PySem PySem.Spec PyProof.Rows L2
/-! ### exceptions of the program: raised, caught and kept -/
/-- the frame of a def -/
structure Fw (X : Cx) : Prop where
  hs : X.stack = X.env :: X.outer
  hf : X.env.frame = some X.env.locals
  hex : X.ex = []
  hpn : X.pn = []
/-- no slot is an own list -/
abbrev NoOw (τ : List Sl) : Prop := ∀ (i : Nat) ds, τ[i]? ≠ some (.ow ds)
section
variable {W : Wo} {G0 H0 : Hp} {σ σ' : L2.St} {G H G' H' : Hp} {τ τ' : List Sl} {n n' : Nat}
theorem As.rebase (A : As W G0 H0 [] σ G H τ n) (h : NoOw τ) : As W G H [] σ G H τ n :=
  ⟨Gr.refl A.gr.sta, A.wi, A.len, A.st, fun i ds e => absurd e (h i ds), A.sep, fun p hp => absurd hp (by simp)⟩
theorem As.unbase (A : As W G0 H0 [] σ G H τ n) (B : As W G H [] σ' G' H' τ' n') : As W G0 H0 [] σ' G' H' τ' n' :=
  ⟨A.gr.trans B.gr, B.wi, B.len, B.st, fun i ds e => by
    obtain ⟨a, xs, h1, h2, h3, h4, h5, h6⟩ := B.ow i ds e
    exact ⟨a, xs, h1, h2, h3, h4, h5, none_of_fr A.gr.fr h5 h6⟩, B.sep, fun p hp => absurd hp (by simp)⟩
end
/-- the context of a try's body -/
abbrev Cn.tr (C : Cn) (G H : Hp) (pn : List (Addr × Obj)) (xe : Value → Shared → Prop) (E : Addr → List Sl → Nat → Prop) : Cn := { C with X := C.X.tr pn xe, G0 := G, H0 := H, E := E }
section
variable {C : Cn} {τ : List Sl} {n : Nat} {D : AE} {pos : Pos} {Q : Av → List Sl → Nat → Prop} {e : Expr}
theorem sx_tryK {body : List Stmt} {i j : Nat} {x nm y : Str} {c : Value} {np pos' py pn1 pa : Pos} (fw : Fw C.X) (nd : C.X.N.Nodup) (tk : Takes C.X C.CW) (hi : Nm C.X i nm) (hln : C.X.env.scope.names.lookup nm = some .local) (hj : Lm C.X j y) (hfj : C.X.env.scope.names.lookup y = some .local)
    (hc : Names C.X x c) (hno : NoOw τ)
    (hb : ∀ G H pn xe, let E' := fun c' τ' n' => ∃ b nm', PySem.W.exmOne C.X.K (.ref c') c = some b ∧ (b = true → D.nx (((τ'.set i (.st (.ex c' nm'))).set j (.st (.ex c' nm'))).set i .no) n') ∧ (b = false → C.E c' τ' n');
      Takes (C.tr G H pn xe E').X (C.tr G H pn xe E').CW → PassesOwn (model C.X.prog C.X.w) C.X.A C.X.env xe → SXs (C.tr G H pn xe E') τ n body D)
    (hij : i ≠ j := by decide) (hk : C.X.env.kindOf nm = some .local := by first | assumption | rfl) (hsw : swapsWith (.Name nm pn1) (some (.Name y py)) pa.line C.X.env = pure false := by rfl) :
    SX C τ n (.Try body [.ExceptHandler (some (.Name x np)) (some nm) [.Assign [.Name y py] (.Name nm pn1) pa] pos'] [] [] pos) D := by
  intro σ G H Dc A k
  refine rs_of (ps_try_keep (tb := fun W D σ H => ∀ pn xe, Takes (C.X.tr pn xe) W → PassesOwn (model C.X.prog C.X.w) C.X.A C.X.env xe → RSs (C.X.tr pn xe) body D σ H) (Wout := C.CW) (i := i) (j := j) (c := c)
    fw.hs fw.hf nd hi.hN hk hi.hv hj.hN hj.hl hfj hij fw.hex fw.hpn hi.hd hi.hc hc tk hsw (fun W pn xe t o => ⟨fun pins s σ H D I h => h pn xe t o pins s I⟩)) ?_
  intro pn xe t o
  refine hb G H pn xe (t.imp ?_) o σ G H Dc (A.rebase hno) ⟨fun σ' G' H' τ' n' B e q => k.nx σ' G' H' τ' n' (A.unbase B) e q, fun v x n' G' H' g w r q => k.rt v x n' G' H' (A.gr.trans g) w r q, fun σ' G' H' τ' n' B e q => k.bk σ' G' H' τ' n' (A.unbase B) e q, fun σ' G' H' τ' n' B e q => k.ct σ' G' H' τ' n' (A.unbase B) e q, fun p us ds n' G' H' g w h d q => k.rf p us ds n' G' H' (A.gr.trans g) w h d q⟩
  rintro cls d σ' H' ⟨rfl, c', τ', n', G', rfl, B, b, nm', hb1, hy, hn⟩
  refine ⟨b, hb1, fun eb a ha => ?_, fun eb => ⟨rfl, c', τ', n', G', rfl, A.unbase B, hn eb⟩⟩
  have B1 := (A.unbase B).new (o := EK (.ref c') none a) ha
  have rv : Rv C.WK (upd G' a (EK (.ref c') none a)) (.ref a) (.ex c' nm') := ⟨a, rfl, upd_same⟩
  have B2 := ((B1.put i rv).put j rv).drop i none
  exact k.nx _ _ _ _ _ B2 (B.gr.ex.trans (Ex.new ((A.unbase B).freshG ha))) (hy eb)
/-- isinstance(e, C), e a kept exception -/
theorem ex_isX {p p2 : Pos} {z : Str} {c : V} {cv : Value} (hz : Bl C.X "isinstance") (hT : ∀ p2, PE C.X (.Name z p2) (tC c)) (hcv : ∀ u, RelV c u → u = cv)
    (h : EX C τ n e fun x τ1 n1 => ∃ D nm' b, x = .ex D nm' ∧ ExcC C.X.K D ∧ PySem.W.kitOne C.X.K (.ref D) cv = some b ∧ Q (aB b) τ1 n1)
    (he : starEach [e, .Name z p2] C.X.env = (false, eval e C.X.env) :: starEach [.Name z p2] C.X.env := by rfl)
    (he2 : starEach [.Name z p2] C.X.env = (false, eval (.Name z p2) C.X.env) :: starEach [] C.X.env := by rfl) (hpl : (backTo pos (starEach [.Name z p2] C.X.env)).any (·.1) = false := by rfl) :
    EX C τ n (.Call (.Name "isinstance" p) [e, .Name z p2] [] pos) Q := by
  intro pv σ G H R A k
  refine re_of (pe_callB (id := "isinstance") call_isX hz.hg hz.hm boot_isi1 (pa_cons pe_re (pa_cons (hT p2) pa_nil he2) he) (by decide) (by decide) he hpl) ?_
  refine h pv σ G H _ A fun v x G1 H1 τ1 n1 A1 e1 r1 ⟨D, nm', b, ex, hC, hk, q⟩ => ?_
  subst ex
  obtain ⟨a, rfl, ha⟩ := r1
  exact ⟨a, D, c, cv, b, rfl, A1.gh a _ ha, hC, hcv, hk, k _ _ G1 H1 τ1 n1 A1 e1 (rv_bool _) q⟩
end
/-! ### the classes of exceptions of a program, by name: xc x is the address of the class x -/
open PySem.W in
def excCB (K : Frag) (D : Addr) : Bool :=
  decide (findIn K (.ref D) "__getattribute__" = some (some (.builtin "BaseException.__getattribute__"))) && decide (findIn K (.ref D) "__getattr__" = some none) && decide (subIn K (.ref D) (.type "BaseException") = some true) && hasDictIn K D &&
  decide (findIn K (.ref D) "__class__" = some (some (.builtin "object.__class__"))) && decide (specialIn K (.builtin "object.__class__") "__get__" = some (some (.builtin "getset_descriptor.__get__"))) && decide (takesIn K (.builtin "object.__class__") = some true) && decide (mroIn K D (.type "object") = some true)
theorem excCB_ok {K : PySem.W.Frag} {D : Addr} (h : excCB K D = true) : ExcC K D := by
  simp only [excCB, Bool.and_eq_true, decide_eq_true_eq] at h
  obtain ⟨⟨⟨⟨⟨⟨⟨h1, h2⟩, h3⟩, h4⟩, h5⟩, h6⟩, h7⟩, h8⟩ := h
  exact ⟨h1, h2, h3, h4, h5, h6, h7, h8⟩
/-- the classes with an __init__ of their own: they are looked at, never raised -/
abbrev xOwn : List Str := ["NoFall", "NoText"]
/-- what is to be known of the classes l, each straight under FolkError -/
structure Xk (K : PySem.W.Frag) (mg : Str → Option Value) (xc : Str → Addr) (l : List Str) : Prop where
  glo : ∀ x ∈ l, mg x = some (.ref (xc x))
  exc : ∀ x ∈ l, x ∉ xOwn → PySem.W.excIn K (xc x) He.veBase "ValueError.__new__" = true ∧ PySem.W.keepIn K (.ref (xc x)) = true ∧ PySem.W.subIn K (.ref (xc x)) (.type "BaseException") = some true ∧ PySem.W.typeIn K (.ref (xc x)) = some (.type "type")
  isi : ∀ x ∈ l, ExcC K (xc x)
  kit : ∀ x ∈ l, ∀ y ∈ l, PySem.W.kitOne K (.ref (xc x)) (.ref (xc y)) = some (decide (x = y))
  ve : ∀ x ∈ l, PySem.W.kitOne K (.ref (xc x)) (.type "ValueError") = some true
  fe : ∀ x ∈ l, PySem.W.exmOne K (.ref (xc x)) (.ref (xc "FolkError")) = some true
  fg : mg "FolkError" = some (.ref (xc "FolkError"))
def xkB (K : PySem.W.Frag) (l : List Str) : Bool :=
  (l.all fun x => He.eqO (PySem.W.nsIn K mainGlobals x) (some (some (.ref (He.ga K x)))) && (decide (x ∈ xOwn) || (He.Fa.exc x).ok K) && excCB K (He.ga K x) && (l.all fun y => decide (PySem.W.kitOne K (.ref (He.ga K x)) (.ref (He.ga K y)) = some (decide (x = y)))) &&
    decide (PySem.W.kitOne K (.ref (He.ga K x)) (.type "ValueError") = some true) && decide (PySem.W.exmOne K (.ref (He.ga K x)) (.ref (He.ga K "FolkError")) = some true)) && He.eqO (PySem.W.nsIn K mainGlobals "FolkError") (some (some (.ref (He.ga K "FolkError"))))
theorem xk_ok {K : PySem.W.Frag} {h : Heap} {mg : Str → Option Value} {l : List Str} (X : K.In h) (G : h.Ns mainGlobals mg) (c : xkB K l = true) : Xk K mg (He.ga K) l := by
  simp only [xkB, Bool.and_eq_true, List.all_eq_true, decide_eq_true_eq] at c
  obtain ⟨c, cf⟩ := c
  exact ⟨fun x hx => PySem.W.mg_of X G (He.eqO_ok (c x hx).1.1.1.1.1), fun x hx hn => He.exc_ok (by have h := (c x hx).1.1.1.1.2; rw [decide_eq_false hn, Bool.false_or] at h; exact h), fun x hx => excCB_ok (c x hx).1.1.1.2, fun x hx y hy => (c x hx).1.1.2 y hy, fun x hx => (c x hx).1.2, fun x hx => (c x hx).2, PySem.W.mg_of X G (He.eqO_ok cf)⟩
section
variable {C : Cn} {τ : List Sl} {n : Nat} {D : AE} {pos : Pos} {Q : Av → List Sl → Nat → Prop} {e : Expr} {xc : Str → Addr} {l : List Str}
theorem sx_raiseX {z m : Str} {j : Nat} {p p2 cpos : Pos} (hc : C.X.calm = true) (tk : Takes C.X C.CW) (K : Xk C.X.K C.X.mg xc l) (hz : z ∈ l) (hno : z ∉ xOwn) (hg : Gl C.X z) (h : C.E (xc z) τ n) (hd : (z == ("__debug__" : Str)) = false := by decide) :
    SX C τ n (.Raise (some (.Call (.Name z p) [.Constant (.str m) j p2] [] cpos)) none pos) D := by
  obtain ⟨h1, h2, h3, h4⟩ := K.exc z hz hno
  exact sx_raise hc tk PySem.F.excBase_ValueError h1 (K.glo z hz) h2 (raises_own h3 h4) hg hd h
/-- isinstance(e, z) -/
theorem ex_isXc {p p2 : Pos} {z : Str} (hI : Bl C.X "isinstance") (K : Xk C.X.K C.X.mg xc l) (hz : z ∈ l) (hg : Gl C.X z) (hd : (z == ("__debug__" : Str)) = false)
    (h : EX C τ n e fun x τ1 n1 => ∃ y, x = .ex (xc y) y ∧ y ∈ l ∧ Q (aB (decide (y = z))) τ1 n1)
    (he : starEach [e, .Name z p2] C.X.env = (false, eval e C.X.env) :: starEach [.Name z p2] C.X.env := by rfl)
    (he2 : starEach [.Name z p2] C.X.env = (false, eval (.Name z p2) C.X.env) :: starEach [] C.X.env := by rfl) (hpl : (backTo pos (starEach [.Name z p2] C.X.env)).any (·.1) = false := by rfl) :
    EX C τ n (.Call (.Name "isinstance" p) [e, .Name z p2] [] pos) Q :=
  ex_isX (c := .ref (xc z)) (cv := .ref (xc z)) hI (fun p2 => pe_glob (v := .ref (xc z)) hg (K.glo z hz) rfl hd) (fun u r => r) (h.imp fun x τ' n' ⟨y, ex, hy, q⟩ => ⟨xc y, y, _, ex, K.isi y hy, K.kit y hy z hz, q⟩) he he2 hpl
/-- isinstance(e, ValueError) -/
theorem ex_isVE {p p2 : Pos} (hI : Bl C.X "isinstance") (hV : Bl C.X "ValueError") (K : Xk C.X.K C.X.mg xc l)
    (h : EX C τ n e fun x τ1 n1 => ∃ y, x = .ex (xc y) y ∧ y ∈ l ∧ Q (aB true) τ1 n1)
    (he : starEach [e, .Name "ValueError" p2] C.X.env = (false, eval e C.X.env) :: starEach [.Name "ValueError" p2] C.X.env := by rfl)
    (he2 : starEach [.Name "ValueError" p2] C.X.env = (false, eval (.Name "ValueError" p2) C.X.env) :: starEach [] C.X.env := by rfl) (hpl : (backTo pos (starEach [.Name "ValueError" p2] C.X.env)).any (·.1) = false := by rfl) :
    EX C τ n (.Call (.Name "isinstance" p) [e, .Name "ValueError" p2] [] pos) Q :=
  ex_isX (c := .ty "ValueError") (cv := .type "ValueError") hI (fun p2 => pe_bltn hV.hg hV.hm PyProof.Rows.Boot.«ValueError» rfl) (fun u r => r) (h.imp fun x τ' n' ⟨y, ex, hy, q⟩ => ⟨xc y, y, _, ex, K.isi y hy, K.ve y hy, q⟩) he he2 hpl
end
end M

set_option Elab.async false
set_option linter.all false
set_option maxRecDepth 100000
set_option maxHeartbeats 4000000
namespace M
open PySem PySem.Spec PyProof.Rows L2
/-! ### what a def computes, as a function: readings of expressions and statements as functions of the slots -/
abbrev Rs (α : Type) := Option (Except Str α)
abbrev vl {α : Type} (x : α) : Rs α := some (.ok x)
abbrev Ev := List Sl → Rs Av
abbrev EvB := List Sl → Rs Bool
abbrev EvL := List Sl → Rs (List Av)
abbrev EvD := List Sl → Rs (List PyData)
def bnd {α β : Type} (r : Rs α) (k : α → Rs β) : Rs β := match r with
  | some (.ok x) => k x
  | some (.error z) => some (.error z)
  | none => none
theorem bnd_vl {α β : Type} (x : α) (k : α → Rs β) : bnd (some (.ok x)) k = k x := rfl
theorem bnd_er {α β : Type} (z : Str) (k : α → Rs β) : bnd (some (.error z)) k = some (.error z) := rfl
def lif {α : Type} : Option α → Rs α
  | some x => vl x
  | none => none
theorem lif_some {α : Type} (x : α) : lif (some x) = some (.ok x) := rfl
inductive Out where
  | nx
  | rt (x : Av)
  | bk
  | ct
  | ex (z : Str)
abbrev EvS := List Sl → Option (Out × List Sl)
section
variable (C : Cn) (xc : Str → Addr)
def Pst {α : Type} (r : Rs α) (τ : List Sl) (n : Nat) (Q : α → Prop) : Prop := match r with
  | some (.ok x) => Q x
  | some (.error z) => C.E (xc z) τ n
  | none => False
def Snd (e : Expr) (t : Ev) : Prop := ∀ τ n Q, Pst C xc (t τ) τ n (fun x => Q x τ n) → EX C τ n e Q
def SndT (e : Expr) (t : EvB) : Prop := ∀ τ n Q, Pst C xc (t τ) τ n (fun x => Q x τ n) → ET C τ n e Q
def SndW (e : Expr) (t : EvB) : Prop := ∀ τ n Q, Pst C xc (t τ) τ n (fun x => Q x τ n) → EW C τ n e Q
def SndA (es : List Expr) (t : EvL) : Prop := ∀ τ n Q, Pst C xc (t τ) τ n (fun x => Q x τ n) → EA C τ n es Q
def SndF (e : Expr) (t : EvD) : Prop := ∀ τ n Q, Pst C xc (t τ) τ n (fun x => Q x τ n) → EF C τ n e Q
def SndI (tg iter : Expr) (t : EvD) : Prop := ∀ τ n Q, Pst C xc (t τ) τ n (fun x => Q x τ n) → EI C τ n tg iter Q
def SndO (e : Option Expr) (t : List Sl → Rs (Option Int)) : Prop := ∀ τ n Q, Pst C xc (t τ) τ n (fun x => Q x τ n) → EO C τ n e Q
def PstS (r : Option (Out × List Sl)) (n : Nat) (D : AE) : Prop := match r with
  | some (.nx, τ) => D.nx τ n
  | some (.rt x, _) => D.rt x n
  | some (.bk, τ) => D.bk τ n
  | some (.ct, τ) => D.ct τ n
  | some (.ex z, τ) => C.E (xc z) τ n
  | none => False
def SndS (st : Stmt) (s : EvS) : Prop := ∀ τ n D, PstS C xc (s τ) n D → SX C τ n st D
def SndSs (st : List Stmt) (s : EvS) : Prop := ∀ τ n D, PstS C xc (s τ) n D → SXs C τ n st D
end
section
variable {C : Cn} {xc : Str → Addr} {α β : Type} {τ : List Sl} {n : Nat}
theorem pst_bnd {r : Rs α} {k : α → Rs β} {Q : β → Prop} (h : Pst C xc (bnd r k) τ n Q) : Pst C xc r τ n fun x => Pst C xc (k x) τ n Q := by
  rcases r with _ | r
  · exact h
  · cases r <;> exact h
theorem Pst.imp {r : Rs α} {Q Q' : α → Prop} (h : Pst C xc r τ n Q) (k : ∀ x, Q x → Q' x) : Pst C xc r τ n Q' := by
  rcases r with _ | r
  · exact h
  · cases r with
    | error z => exact h
    | ok x => exact k x h
theorem pst_lif {o : Option α} {Q : α → Prop} (h : Pst C xc (lif o) τ n Q) : ∃ x, o = some x ∧ Q x := by
  cases o with
  | none => exact h.elim
  | some x => exact ⟨x, rfl, h⟩
end

/-! ### operations of values -/
def intsOf : List PyData → Option (List Int)
  | [] => some []
  | .int i :: r => (intsOf r).map (i :: ·)
  | _ :: _ => none
theorem intsOf_d : ∀ ns : List Int, intsOf (dints ns) = some ns
  | [] => rfl
  | n :: r => by
    show (intsOf (dints r)).map (n :: ·) = _
    rw [intsOf_d r]; rfl
theorem intsOf_of : ∀ {ds : List PyData} {ns : List Int}, intsOf ds = some ns → ds = dints ns
  | [], ns, h => by cases h; rfl
  | d :: r, ns, h => by
    cases d with
    | int i =>
      have h : (intsOf r).map (i :: ·) = some ns := h
      obtain ⟨m, h1, rfl⟩ := Option.map_eq_some_iff.mp h
      rw [intsOf_of h1]; rfl
    | _ => cases h
def llOf : List PyData → Option (List (List Int))
  | [] => some []
  | .list ds :: r => (intsOf ds).bind fun ns => (llOf r).map (ns :: ·)
  | _ :: _ => none
theorem llOf_d : ∀ nss : List (List Int), llOf (nss.map dL) = some nss
  | [] => rfl
  | n :: r => by
    show (intsOf (dints n)).bind (fun ns => (llOf (r.map dL)).map (ns :: ·)) = _
    rw [intsOf_d, llOf_d r]; rfl
theorem llOf_of : ∀ {ds : List PyData} {nss : List (List Int)}, llOf ds = some nss → ds = nss.map dL
  | [], ns, h => by cases h; rfl
  | d :: r, ns, h => by
    cases d with
    | list es =>
      have h : (intsOf es).bind (fun ns => (llOf r).map (ns :: ·)) = some ns := h
      cases h1 : intsOf es with
      | none => rw [h1] at h; cases h
      | some m =>
        rw [h1] at h
        obtain ⟨k, h2, rfl⟩ := Option.map_eq_some_iff.mp (show (llOf r).map (m :: ·) = some ns from h)
        rw [llOf_of h2, intsOf_of h1]; rfl
    | _ => cases h
def pAdd : Av → Av → Option Av
  | .d (.int i), .d (.int j) => some (aI (i + j))
  | .d (.list ds), .d (.list es) => if ds.length + es.length ≤ sizeLine then some (.d (.list (ds ++ es))) else none
  | _, _ => none
def pSub : Av → Av → Option Av
  | .d (.int i), .d (.int j) => some (aI (i - j))
  | _, _ => none
open Classical in
noncomputable def pMul : Av → Av → Option Av
  | .d (.int i), .d (.int j) => if CMulW i j then some (aI (i * j)) else none
  | .d (.list ds), .d (.int k) => if -(2 ^ 63) ≤ k ∧ k < 2 ^ 63 ∧ ds.length * k.toNat ≤ sizeLine then some (.d (.list (List.replicate k.toNat ds).flatten)) else none
  | _, _ => none
open Classical in
noncomputable def pDiv : Av → Av → Option Av
  | .d (.int i), .d (.int j) => if CDivW i j then some (aI (i / j)) else none
  | _, _ => none
def pMod : Av → Av → Option Av
  | .d (.int i), .d (.int j) => if 0 < j then some (aI (i % j)) else none
  | _, _ => none
open Classical in
noncomputable def pPow : Av → Av → Option Av
  | .d (.int i), .d (.int j) => if CPowW i j then some (aI (i ^ j.toNat)) else none
  | _, _ => none
open Classical in
noncomputable def pShl : Av → Av → Option Av
  | .d (.int i), .d (.int j) => if CPow i j then some (aI (i * 2 ^ j.toNat)) else none
  | _, _ => none
def pShr : Av → Av → Option Av
  | .d (.int i), .d (.int j) => if 0 ≤ j then some (aI (i / 2 ^ j.toNat)) else none
  | _, _ => none
def pBand : Av → Av → Option Av
  | .d (.int i), .d (.int j) => some (aI (Builtin.bitAnd i j))
  | _, _ => none
def pNeg : Av → Option Av
  | .d (.int i) => some (aI (-i))
  | _ => none
def cLt : Av → Av → Option Bool
  | .d (.int i), .d (.int j) => some (decide (i < j))
  | _, _ => none
def cLe : Av → Av → Option Bool
  | .d (.int i), .d (.int j) => some (decide (i ≤ j))
  | _, _ => none
def cGt : Av → Av → Option Bool
  | .d (.int i), .d (.int j) => some (decide (j < i))
  | _, _ => none
def cGe : Av → Av → Option Bool
  | .d (.int i), .d (.int j) => some (decide (j ≤ i))
  | _, _ => none
def cEqD (d e : PyData) : Option Bool := if SeqAt.shaped d = true ∧ SeqAt.shaped e = true then some (PyData.eqv d e) else none
def cEq : Av → Av → Option Bool
  | .d (.int i), .d (.int j) => some (decide (i = j))
  | .d (.str i), .d (.str j) => some (decide (i = j))
  | .d d, .d e => cEqD d e
  | _, _ => none
def cNe (x y : Av) : Option Bool := (cEq x y).map (!·)
def cIn : Av → Av → Option Bool
  | .d d, .d (.list ds) => if SeqAt.shaped d = true ∧ SeqAt.shaped (.list ds) = true then some (ds.any fun z => PyData.eqv z d) else none
  | _, _ => none
def cNi (x y : Av) : Option Bool := (cIn x y).map (!·)
def pB (c : Av → Av → Option Bool) (x y : Av) : Option Av := (c x y).map aB
def pIx : Av → Av → Option Av
  | .d (.list ds), .d (.int i) => (atI ds i).map .d
  | .d (.tuple ds), .d (.int i) => (atI ds i).map .d
  | .sc ns, .d (.int i) => (atI ns i).map aI
  | _, _ => none
def pIxD : Av → Av → Option Av
  | .dc kvs, .d (.int i) => (kvs.lookup i).map aI
  | _, _ => none
def asB : Av → Option Bool
  | .d (.bool b) => some b
  | _ => none
def asTr : Av → Option Bool
  | .d (.str _) => none
  | .d d => some (tru d)
  | _ => none
def asI : Av → Option Int
  | .d (.int i) => some i
  | _ => none
def asL : Av → Option (List PyData)
  | .d (.list ds) => some ds
  | _ => none
def asLT : Av → Option (List PyData)
  | .d (.list ds) => some ds
  | .d (.tuple ds) => some ds
  | _ => none
def asIs : Av → Option (List Int)
  | .d (.list ds) => intsOf ds
  | _ => none
def asT : Av → Option (List PyData)
  | .d (.tuple ds) => some ds
  | _ => none
def asD : Av → Option PyData
  | .d d => some d
  | _ => none
def fLst (xs : List Av) : Option Av := match unD xs with
  | some ds => if ds.length ≤ sizeLine then some (.d (.list ds)) else none
  | none => none
def fTup (xs : List Av) : Option Av := match unD xs with
  | some ds => if ds.length ≤ sizeLine then some (.d (.tuple ds)) else none
  | none => none
def fLen : List Av → Option Av
  | [x] => (lenA x).map fun m => aI (m : Nat)
  | _ => none
def fAbs : List Av → Option Av
  | [.d (.int i)] => some (aI (if i < 0 then -i else i))
  | _ => none
def fList : List Av → Option Av
  | [x] => (asLT x).map fun ds => .d (.list ds)
  | _ => none
def srtI (ns : List Int) : List Int := ns.mergeSort fun a b => decide (a ≤ b)
theorem srtI_perm (ns : List Int) : (srtI ns).Perm ns := List.mergeSort_perm ns _
theorem srtI_pw (ns : List Int) : (srtI ns).Pairwise (· ≤ ·) := by
  have h := List.pairwise_mergeSort (le := fun a b : Int => decide (a ≤ b)) (fun a b c h1 h2 => by simp at h1 h2 ⊢; omega) (fun a b => by simp; omega) ns
  exact h.imp fun h => by simpa using h
theorem srtI_uniq {ns ms : List Int} (h1 : ms.Perm ns) (h2 : ms.Pairwise (· ≤ ·)) : ms = srtI ns := perm_sorted (List.Perm.refl ns) h1 h2 (srtI_perm ns) (srtI_pw ns)
def fSorted : List Av → Option Av
  | [.d (.list ds)] => match intsOf ds with
    | some ns => some (aL (srtI ns))
    | none => match llOf ds with
      | some nss => some (.d (dLL (srt nss)))
      | none => none
  | _ => none
def fMax : List Av → Option Av
  | [.d (.list ds)] => (intsOf ds).bind fun ns => ns.max?.map aI
  | [.d (.int i), .d (.int j)] => some (aI (if j > i then j else i))
  | _ => none
def fMin : List Av → Option Av
  | [.d (.list ds)] => (intsOf ds).bind fun ns => ns.min?.map aI
  | [.d (.int i), .d (.int j)] => some (aI (if j < i then j else i))
  | _ => none
def fMax1 : List Av → Option Av
  | [x] => fMax [x]
  | _ => none
def fMin1 : List Av → Option Av
  | [x] => fMin [x]
  | _ => none
def fSum : List Av → Option Av
  | [.d (.list ds)] => (intsOf ds).map fun ns => aI ns.sum
  | _ => none
def fInt : List Av → Option Av
  | [.d (.int i)] => some (aI i)
  | [.d (.bool b)] => some (aI (if b then 1 else 0))
  | _ => none
def pIsi (T : String) (x : Av) : Option Av := if noEx x = true then some (aB (isiD x T)) else none
def pRev : Av → Option Av
  | .d (.list ds) => some (.d (.list ds.reverse))
  | _ => none
def pTupL : Av → Option Av
  | .d (.list ds) => some (.d (.tuple ds))
  | _ => none
def pLenSet : Av → Option Av
  | .d (.list ds) => (intsOf ds).bind fun ns => if ns.length < 64 then some (aI (dist ns : Nat)) else none
  | _ => none

/-! ### readings -/
def eVar (i : Nat) : Ev := fun τ => match τ[i]? with
  | some (.st x) => vl x
  | _ => none
def eC (x : Av) : Ev := fun _ => vl x
def e1 (p : Av → Option Av) (t : Ev) : Ev := fun τ => bnd (t τ) fun x => lif (p x)
def e2 (p : Av → Av → Option Av) (t u : Ev) : Ev := fun τ => bnd (t τ) fun x => bnd (u τ) fun y => lif (p x y)
def b1 (p : Av → Option Bool) (t : Ev) : EvB := fun τ => bnd (t τ) fun x => lif (p x)
def b2 (p : Av → Av → Option Bool) (t u : Ev) : EvB := fun τ => bnd (t τ) fun x => bnd (u τ) fun y => lif (p x y)
def eF (p : List Av → Option Av) (t : EvL) : Ev := fun τ => bnd (t τ) fun x => lif (p x)
def eCall (f : List Av → Rs Av) (t : EvL) : Ev := fun τ => bnd (t τ) f
def aNil : EvL := fun _ => vl []
def aCons (t : Ev) (u : EvL) : EvL := fun τ => bnd (t τ) fun x => bnd (u τ) fun xs => vl (x :: xs)
def tNot (t : EvB) : EvB := fun τ => bnd (t τ) fun b => vl (!b)
def tAnd (t u : EvB) : EvB := fun τ => bnd (t τ) fun b => if b = true then u τ else vl false
def tOr (t u : EvB) : EvB := fun τ => bnd (t τ) fun b => if b = true then vl true else u τ
def vAnd (t u : Ev) : Ev := fun τ => bnd (t τ) fun x => bnd (lif (asB x)) fun b => if b = true then u τ else vl (aB false)
def vOr (t u : Ev) : Ev := fun τ => bnd (t τ) fun x => bnd (lif (asB x)) fun b => if b = true then vl (aB true) else u τ
def eIf (c : EvB) (t u : Ev) : Ev := fun τ => bnd (c τ) fun b => if b = true then t τ else u τ
def eIndex (t u : Ev) : Ev := fun τ => bnd (t τ) fun x => bnd (lif (asIs x)) fun ns => bnd (u τ) fun y => bnd (lif (asI y)) fun i => if i ∈ ns then vl (aI (ns.idxOf i : Nat)) else none
def oN : List Sl → Rs (Option Int) := fun _ => vl none
def oS (t : Ev) : List Sl → Rs (Option Int) := fun τ => bnd (t τ) fun x => bnd (lif (asI x)) fun i => vl (some i)
def eSl (t : Ev) (lo hi : List Sl → Rs (Option Int)) : Ev := fun τ => bnd (t τ) fun x => bnd (lo τ) fun l => bnd (hi τ) fun h => bnd (lif (asL x)) fun ds => vl (.d (.list (cutD ds l h)))
def eChLe (t u v : Ev) : Ev := fun τ => bnd (t τ) fun x => bnd (u τ) fun y => bnd (lif (asI x)) fun i => bnd (lif (asI y)) fun j => if i ≤ j then bnd (v τ) fun z => bnd (lif (asI z)) fun k => vl (aB (decide (j ≤ k))) else vl (aB false)
def bChLe (t u v : Ev) : EvB := fun τ => bnd (t τ) fun x => bnd (u τ) fun y => bnd (lif (asI x)) fun i => bnd (lif (asI y)) fun j => if i ≤ j then bnd (v τ) fun z => bnd (lif (asI z)) fun k => vl (decide (j ≤ k)) else vl false
def bChLeLt (t u v : Ev) : EvB := fun τ => bnd (t τ) fun x => bnd (u τ) fun y => bnd (lif (asI x)) fun i => bnd (lif (asI y)) fun j => if i ≤ j then bnd (v τ) fun z => bnd (lif (asI z)) fun k => vl (decide (j < k)) else vl false
/-- own lists, read in place -/
def isInt : PyData → Bool
  | .int _ => true
  | _ => false
def owB (τ : List Sl) (i : Nat) : Bool := τ.zipIdx.all fun p => p.2 == i || match p.1 with
  | .ow es => es.all isInt
  | _ => true
theorem owB_ok {τ : List Sl} {i : Nat} (h : owB τ i = true) : OwI τ i := by
  intro j es hj e
  have hm : (Sl.ow es, j) ∈ τ.zipIdx := by
    rw [List.mem_zipIdx_iff_getElem?]; simpa using e
  have h1 := List.all_eq_true.mp h _ hm
  have h2 : (j == i) = false := by simpa using hj
  simp only [h2, Bool.false_or] at h1
  have key : ∀ l : List PyData, l.all isInt = true → ∃ ns, l = dints ns := by
    intro l
    induction l with
    | nil => intro _; exact ⟨[], rfl⟩
    | cons d r ih =>
      intro h
      simp only [List.all_cons, Bool.and_eq_true] at h
      obtain ⟨ns, rfl⟩ := ih h.2
      cases d with
      | int i => exact ⟨i :: ns, rfl⟩
      | _ => cases h.1
  exact key es h1
def scB : Av → Bool
  | .d .none => true
  | .d (.bool _) => true
  | .d (.int _) => true
  | .d (.str _) => true
  | _ => false
def okO {α : Type} : Rs α → Option α
  | some (.ok x) => some x
  | _ => none
def eBor (i : Nat) (t : Ev) : Ev := fun τ => match τ[i]? with
  | some (.ow ds) => if owB τ i = true then match okO (t (τ.set i (.st (.d (.list ds))))) with
    | some x => if scB x = true then vl x else none
    | none => none else none
  | _ => none
def bBor (i : Nat) (t : EvB) : EvB := fun τ => match τ[i]? with
  | some (.ow ds) => if owB τ i = true then lif (okO (t (τ.set i (.st (.d (.list ds)))))) else none
  | _ => none
def dBor (i : Nat) (t : EvD) : EvD := fun τ => match τ[i]? with
  | some (.ow ds) => if owB τ i = true then match okO (t (τ.set i (.st (.d (.list ds))))) with
    | some xs => if xs.all isInt = true then vl xs else none
    | none => none else none
  | _ => none
def eLenO (i : Nat) : Ev := fun τ => match τ[i]? with
  | some (.ow ds) => vl (aI ds.length)
  | _ => none
def eIxO (i : Nat) (t : Ev) : Ev := fun τ => match τ[i]? with
  | some (.ow ds) => bnd (t τ) fun x => bnd (lif (asI x)) fun j => lif ((atI ds j).map .d)
  | _ => none
def dF (t : Ev) : EvD := fun τ => bnd (t τ) fun x => lif (asL x)
/-- iterables -/
def iL (t : Ev) : EvD := fun τ => bnd (t τ) fun x => lif (asL x)
def iT (t : Ev) : EvD := fun τ => bnd (t τ) fun x => lif (asT x)
def iRg1 (t : Ev) : EvD := fun τ => bnd (t τ) fun x => bnd (lif (asI x)) fun j => if -(2 ^ 62) ≤ j ∧ j < 2 ^ 62 then vl (rangeD 0 j.toNat) else none
def iRg2 (t u : Ev) : EvD := fun τ => bnd (t τ) fun x => bnd (u τ) fun y => bnd (lif (asI x)) fun i => bnd (lif (asI y)) fun j => if -(2 ^ 62) ≤ i ∧ i < 2 ^ 62 ∧ -(2 ^ 62) ≤ j ∧ j < 2 ^ 62 then vl (rangeD i (j - i).toNat) else none
def iEn (t : Ev) : EvD := fun τ => bnd (t τ) fun x => bnd (lif (asL x)) fun ds => vl (ds.zipIdx.map fun p => PyData.tuple [.int (p.2 : Nat), p.1])
def iZip (t u : Ev) : EvD := fun τ => bnd (t τ) fun x => bnd (u τ) fun y => bnd (lif (asL x)) fun ds => bnd (lif (asL y)) fun es => vl ((ds.zip es).map fun p => PyData.tuple [p.1, p.2])
def iRev (t : Ev) : EvD := fun τ => bnd (t τ) fun x => bnd (lif (asL x)) fun ds => vl ds.reverse
/-- targets -/
structure TgE where
  vs : List Nat
  ok : PyData → Bool
  set : PyData → List Sl → List Sl
def g1 (i : Nat) : TgE := ⟨[i], fun _ => true, fun d τ => τ.set i (.st (.d d))⟩
def is2 : PyData → Bool
  | .tuple [_, _] => true
  | _ => false
def is3 : PyData → Bool
  | .tuple [_, _, _] => true
  | _ => false
def g2 (i j : Nat) : TgE := ⟨[i, j], is2, fun d τ => (τ.set i (.st (.d (prj d 0)))).set j (.st (.d (prj d 1)))⟩
def g3 (i j l : Nat) : TgE := ⟨[i, j, l], is3, fun d τ => ((τ.set i (.st (.d (prj d 0)))).set j (.st (.d (prj d 1)))).set l (.st (.d (prj d 2)))⟩
def noOwB (τ : List Sl) (vs : List Nat) : Bool := vs.all fun j => match τ[j]? with
  | some (.ow _) => false
  | _ => true
/-- list comprehensions -/
def lcL (env : PyData → List Sl) (ok : PyData → Bool) (c : EvB) (t : Ev) : List PyData → Option (List PyData)
  | [] => some []
  | d :: r => if ok d = true then match okO (c (env d)) with
    | some true => match (okO (t (env d))).bind asD with
      | some z => (lcL env ok c t r).map (z :: ·)
      | none => none
    | some false => lcL env ok c t r
    | none => none else none
def tYes : EvB := fun _ => vl true
def dLc (g : TgE) (it : EvD) (c : EvB) (t : Ev) : EvD := fun τ => bnd (it τ) fun ds => if ds.length < sizeLine ∧ noOwB τ g.vs = true then lif (lcL (fun d => g.set d (wipeS τ g.vs)) g.ok c t ds) else none
def eLc (g : TgE) (it : EvD) (c : EvB) (t : Ev) : Ev := fun τ => bnd (dLc g it c t τ) fun ds => vl (.d (.list ds))
/-- {k: v for ..}, unlike keys -/
def dcL (env : PyData → List Sl) (ok : PyData → Bool) (t u : Ev) : List PyData → Option (List (Int × Int))
  | [] => some []
  | d :: r => if ok d = true then match (okO (t (env d))).bind asI, (okO (u (env d))).bind asI with
    | some k, some v => (dcL env ok t u r).map ((k, v) :: ·)
    | _, _ => none else none
def eDc (g : TgE) (it : EvD) (t u : Ev) : Ev := fun τ => bnd (it τ) fun ds => if ds.length < sizeLine ∧ noOwB τ g.vs = true then match dcL (fun d => g.set d (wipeS τ g.vs)) g.ok t u ds with
  | some kvs => if (kvs.map (·.1)).Nodup then vl (.dc kvs) else none
  | none => none else none
/-- all(..), any(..) of a generator -/
def gB (env : PyData → List Sl) (t : Ev) (d : PyData) : Option Bool := (okO (t (env d))).bind asB
def eAll (j : Nat) (it : EvD) (t : Ev) : Ev := fun τ => bnd (it τ) fun ds => if noOwB τ [j] = true ∧ (ds.all fun d => (gB (fun d => (wipeS τ [j]).set j (.st (.d d))) t d).isSome) = true then vl (aB (ds.all fun d => (gB (fun d => (wipeS τ [j]).set j (.st (.d d))) t d).getD false)) else none
def eAny (j : Nat) (it : EvD) (t : Ev) : Ev := fun τ => bnd (it τ) fun ds => if noOwB τ [j] = true ∧ (ds.all fun d => (gB (fun d => (wipeS τ [j]).set j (.st (.d d))) t d).isSome) = true then vl (aB (ds.any fun d => (gB (fun d => (wipeS τ [j]).set j (.st (.d d))) t d).getD false)) else none

/-! statements -/
def sSeq (s u : EvS) : EvS := fun τ => match s τ with
  | some (.nx, τ') => u τ'
  | o => o
def sNil : EvS := fun τ => some (.nx, τ)
def sE {α : Type} (r : Rs α) (τ : List Sl) (k : α → Option (Out × List Sl)) : Option (Out × List Sl) := match r with
  | some (.ok x) => k x
  | some (.error z) => some (.ex z, τ)
  | none => none
def sAsg (i : Nat) (t : Ev) : EvS := fun τ => sE (t τ) τ fun x => some (.nx, τ.set i (.st x))
def sOwn (i : Nat) (t : EvD) : EvS := fun τ => sE (t τ) τ fun ds => some (.nx, τ.set i (.ow ds))
def sApp (i : Nat) (t : Ev) : EvS := fun τ => match τ[i]? with
  | some (.ow ds) => sE (t τ) τ fun x => match x with
    | .d d => if ds.length < sizeLine then some (.nx, τ.set i (.ow (ds ++ [d]))) else none
    | _ => none
  | _ => none
def sIns (i : Nat) (t u : Ev) : EvS := fun τ => match τ[i]? with
  | some (.ow ds) => sE (t τ) τ fun x => sE (u τ) τ fun y => match x, y with
    | .d (.int j), .d d => if ds.length < sizeLine ∧ 0 ≤ j ∧ j < 2 ^ 63 then some (.nx, τ.set i (.ow (ds.take j.toNat ++ [d] ++ ds.drop j.toNat))) else none
    | _, _ => none
  | _ => none
def sSetO (i : Nat) (u t : Ev) : EvS := fun τ => match τ[i]? with
  | some (.ow ds) => sE (t τ) τ fun x => match x with
    | .d d => sE (u τ) τ fun y => match y with
      | .d (.int j) => match ixN ds.length j with
        | some m => some (.nx, τ.set i (.ow (ds.set m d)))
        | none => none
      | _ => none
    | _ => none
  | _ => none
/-- own.append(own2.pop(e)) -/
def sAppPop (i l : Nat) (t : Ev) : EvS := fun τ => match τ[i]?, τ[l]? with
  | some (.ow _), some (.ow es) => sE (t τ) τ fun x => match x with
    | .d (.int j) => if -(2 ^ 63) ≤ j ∧ j < 2 ^ 63 then match seqIndex? j es.length with
      | some k => match es[k]?, (τ.set l (.ow (es.eraseIdx k)))[i]? with
        | some d, some (.ow ds) => if ds.length < sizeLine then some (.nx, (τ.set l (.ow (es.eraseIdx k))).set i (.ow (ds ++ [d]))) else none
        | _, _ => none
      | none => none else none
    | _ => none
  | _, _ => none
def sIf (c : EvB) (s u : EvS) : EvS := fun τ => sE (c τ) τ fun b => if b = true then s τ else u τ
def forL (g : TgE) (body : EvS) : List PyData → EvS
  | [], τ => some (.nx, τ)
  | d :: r, τ => if g.ok d = true then match body (g.set d τ) with
    | some (.nx, τ') => forL g body r τ'
    | some (.ct, τ') => forL g body r τ'
    | some (.bk, τ') => some (.nx, τ')
    | o => o else none
def sFor (g : TgE) (it : EvD) (body : EvS) : EvS := fun τ => sE (it τ) τ fun ds => forL g body ds τ
def whlL (c : EvB) (body : EvS) : Nat → EvS
  | 0, _ => none
  | m + 1, τ => sE (c τ) τ fun b => if b = true then match body τ with
    | some (.nx, τ') => whlL c body m τ'
    | some (.ct, τ') => whlL c body m τ'
    | some (.bk, τ') => some (.nx, τ')
    | o => o else some (.nx, τ)
def sWhl (m : Nat) (c : EvB) (body : EvS) : EvS := whlL c body m
def sRet (t : Ev) : EvS := fun τ => sE (t τ) τ fun x => some (.rt x, τ)
def sRetN : EvS := fun τ => some (.rt aN, τ)
def sRaise (z : Str) : EvS := fun τ => some (.ex z, τ)
def sExpr (t : Ev) : EvS := fun τ => sE (t τ) τ fun _ => some (.nx, τ)
def sFrz (i : Nat) (s : EvS) : EvS := fun τ => match τ[i]? with
  | some (.ow ds) => s (τ.set i (.st (.d (.list ds))))
  | _ => none
def sAug (f : Int → Int → Int) (i : Nat) (t : Ev) : EvS := fun τ => match τ[i]? with
  | some (.st (.d (.int j))) => sE (t τ) τ fun x => match x with
    | .d (.int m) => some (.nx, τ.set i (.st (aI (f j m))))
    | _ => none
  | _ => none
def sAsg2 (i j : Nat) (t : Ev) : EvS := fun τ => sE (t τ) τ fun x => some (.nx, (τ.set i (.st x)).set j (.st x))
def sPar2 (i j : Nat) (t : EvL) : EvS := fun τ => sE (t τ) τ fun xs => match xs with
  | [x, y] => some (.nx, (τ.set i (.st x)).set j (.st y))
  | _ => none
def sPar3 (i j l : Nat) (t : EvL) : EvS := fun τ => sE (t τ) τ fun xs => match xs with
  | [x, y, z] => some (.nx, ((τ.set i (.st x)).set j (.st y)).set l (.st z))
  | _ => none
def pIsX (xc : Str → Addr) (l : List Str) (z : Str) : Av → Option Av
  | .ex D y => if D = xc y ∧ y ∈ l then some (aB (decide (y = z))) else none
  | _ => none
def pIsVE (xc : Str → Addr) (l : List Str) : Av → Option Av
  | .ex D y => if D = xc y ∧ y ∈ l then some (aB true) else none
  | _ => none
def noOwS (τ : List Sl) : Bool := τ.all fun s => match s with
  | .ow _ => false
  | _ => true
/-- try: s except FolkError as e: caught = e -/
def sTry (xc : Str → Addr) (l : List Str) (i j : Nat) (s : EvS) : EvS := fun τ => if noOwS τ = true then match s τ with
  | some (.ex z, τ') => if z ∈ l then some (.nx, ((τ'.set i (.st (.ex (xc z) z))).set j (.st (.ex (xc z) z))).set i .no) else none
  | o => o else none
/-- what is not to come -/
def sNo : EvS := fun _ => none
def eNo : Ev := fun _ => none
def sBk : EvS := fun τ => some (.bk, τ)
def sCt : EvS := fun τ => some (.ct, τ)
/-- the def itself -/
def runF (k m : Nat) (s : EvS) (xs : List Av) : Rs Av := if xs.length = k then match s (xs.map Sl.st ++ List.replicate m .no) with
  | some (.nx, _) => vl aN
  | some (.rt x, _) => vl x
  | some (.ex z, _) => some (.error z)
  | _ => none else none
/-- a promise: it hands back what f says -/
def aspT (xc : Str → Addr) (f : List Av → Rs Av) : ASp := fun xs n R RE => match f xs with
  | some (.ok x) => R x n
  | some (.error z) => RE (xc z) n
  | none => False
end M

set_option Elab.async false
set_option linter.all false
set_option maxRecDepth 100000
set_option maxHeartbeats 4000000
namespace M
open PySem PySem.Spec PyProof.Rows L2
section
variable {C : Cn} {xc : Str → Addr} {a b c e : Expr} {es : List Expr} {pos : Pos} {ta tb tc t u : Ev} {ts : EvL} {p : Av → Av → Option Av} {q : Av → Option Av} {cc : EvB}
theorem sE2 {P : Av → Av → List Sl → Nat → Prop} {τ : List Sl} {n : Nat} {Q : Av → List Sl → Nat → Prop} (ha : Snd C xc a ta) (hb : Snd C xc b tb) (h : Pst C xc (e2 p ta tb τ) τ n fun r => Q r τ n)
    (k : ∀ x y r, p x y = some r → Q r τ n → P x y τ n) : EX C τ n a fun x τ1 n1 => EX C τ1 n1 b fun y τ2 n2 => P x y τ2 n2 :=
  ha τ n _ ((pst_bnd h).imp fun x h1 => hb τ n _ ((pst_bnd h1).imp fun y h2 => let ⟨r, e, q⟩ := pst_lif h2; k x y r e q))
theorem sE2b {P : Av → Av → List Sl → Nat → Prop} {τ : List Sl} {n : Nat} {Q : Bool → List Sl → Nat → Prop} {p : Av → Av → Option Bool} (ha : Snd C xc a ta) (hb : Snd C xc b tb) (h : Pst C xc (b2 p ta tb τ) τ n fun r => Q r τ n)
    (k : ∀ x y r, p x y = some r → Q r τ n → P x y τ n) : EX C τ n a fun x τ1 n1 => EX C τ1 n1 b fun y τ2 n2 => P x y τ2 n2 :=
  ha τ n _ ((pst_bnd h).imp fun x h1 => hb τ n _ ((pst_bnd h1).imp fun y h2 => let ⟨r, e, q⟩ := pst_lif h2; k x y r e q))
theorem sE1 {P : Av → List Sl → Nat → Prop} {τ : List Sl} {n : Nat} {Q : Av → List Sl → Nat → Prop} (ha : Snd C xc a ta) (h : Pst C xc (e1 q ta τ) τ n fun r => Q r τ n)
    (k : ∀ x r, q x = some r → Q r τ n → P x τ n) : EX C τ n a P :=
  ha τ n _ ((pst_bnd h).imp fun x h2 => let ⟨r, e, q⟩ := pst_lif h2; k x r e q)
theorem sE1b {P : Av → List Sl → Nat → Prop} {τ : List Sl} {n : Nat} {Q : Bool → List Sl → Nat → Prop} {q : Av → Option Bool} (ha : Snd C xc a ta) (h : Pst C xc (b1 q ta τ) τ n fun r => Q r τ n)
    (k : ∀ x r, q x = some r → Q r τ n → P x τ n) : EX C τ n a P :=
  ha τ n _ ((pst_bnd h).imp fun x h2 => let ⟨r, e, q⟩ := pst_lif h2; k x r e q)
/-! names and constants -/
theorem snd_var {i : Nat} {x : Str} (h : Nm C.X i x) : Snd C xc (.Name x pos) (eVar i) := fun τ n Q hp => by
  unfold eVar at hp
  split at hp
  · rename_i y e; exact ex_name h e hp
  · exact hp.elim
theorem snd_int {i : Int} {j} : Snd C xc (.Constant (.int i) j pos) (eC (aI i)) := fun τ n Q h => ex_int h
theorem snd_bool {i : Bool} {j} : Snd C xc (.Constant (.bool i) j pos) (eC (aB i)) := fun τ n Q h => ex_bool h
theorem snd_none {j} : Snd C xc (.Constant .none j pos) (eC aN) := fun τ n Q h => ex_none h
theorem snd_str {i : Str} {j} : Snd C xc (.Constant (.str i) j pos) (eC (.d (.str i))) := fun τ n Q h => ex_str h
theorem snd_globI {x : Str} {i : Int} (g : Gl C.X x ∧ (∃ t, C.X.mg x = some (.int i t)) ∧ (x == ("__debug__" : Str)) = false) : Snd C xc (.Name x pos) (eC (aI i)) := fun τ n Q h => ex_globI g h
theorem snd_kd {x : Str} {d : PyData} (g : Kd C.X x d) : Snd C xc (.Name x pos) (eC (.d d)) := fun τ n Q h => ex_kd g h
/-! arithmetic -/
theorem snd_add (ha : Snd C xc a ta) (hb : Snd C xc b tb) : Snd C xc (.BinOp a .Add b pos) (e2 pAdd ta tb) := fun τ n Q h => ex_add (sE2 ha hb h fun x y r e q => by
  unfold pAdd at e
  split at e
  · cases e; exact .inl ⟨_, _, rfl, rfl, q⟩
  · split at e
    · rename_i hl; cases e; exact .inr ⟨_, _, rfl, rfl, hl, q⟩
    · cases e
  · cases e)
theorem snd_sub (ha : Snd C xc a ta) (hb : Snd C xc b tb) : Snd C xc (.BinOp a .Sub b pos) (e2 pSub ta tb) := fun τ n Q h => ex_sub (sE2 ha hb h fun x y r e q => by
  unfold pSub at e; split at e
  · cases e; exact ⟨_, _, rfl, rfl, q⟩
  · cases e)
theorem snd_mul (ha : Snd C xc a ta) (hb : Snd C xc b tb) : Snd C xc (.BinOp a .Mult b pos) (e2 pMul ta tb) := fun τ n Q h => ex_mul (sE2 ha hb h fun x y r e q => by
  unfold pMul at e; split at e
  · split at e
    · rename_i hl; cases e; exact .inl ⟨_, _, rfl, rfl, hl, q⟩
    · cases e
  · split at e
    · rename_i hl; cases e; exact .inr ⟨_, _, rfl, rfl, hl.1, hl.2.1, hl.2.2, q⟩
    · cases e
  · cases e)
theorem snd_fdiv (ha : Snd C xc a ta) (hb : Snd C xc b tb) : Snd C xc (.BinOp a .FloorDiv b pos) (e2 pDiv ta tb) := fun τ n Q h => ex_fdiv (sE2 ha hb h fun x y r e q => by
  unfold pDiv at e; split at e
  · split at e
    · rename_i hl; cases e; exact ⟨_, _, rfl, rfl, hl, q⟩
    · cases e
  · cases e)
theorem snd_mod (ha : Snd C xc a ta) (hb : Snd C xc b tb) : Snd C xc (.BinOp a .Mod b pos) (e2 pMod ta tb) := fun τ n Q h => ex_mod (sE2 ha hb h fun x y r e q => by
  unfold pMod at e; split at e
  · split at e
    · rename_i hl; cases e; exact ⟨_, _, rfl, rfl, hl, q⟩
    · cases e
  · cases e)
theorem snd_pow (ha : Snd C xc a ta) (hb : Snd C xc b tb) : Snd C xc (.BinOp a .Pow b pos) (e2 pPow ta tb) := fun τ n Q h => ex_pow (sE2 ha hb h fun x y r e q => by
  unfold pPow at e; split at e
  · split at e
    · rename_i hl; cases e; exact ⟨_, _, rfl, rfl, hl, q⟩
    · cases e
  · cases e)
theorem snd_shl (ha : Snd C xc a ta) (hb : Snd C xc b tb) : Snd C xc (.BinOp a .LShift b pos) (e2 pShl ta tb) := fun τ n Q h => ex_shl (sE2 ha hb h fun x y r e q => by
  unfold pShl at e; split at e
  · split at e
    · rename_i hl; cases e; exact ⟨_, _, rfl, rfl, hl, q⟩
    · cases e
  · cases e)
theorem snd_shr (ha : Snd C xc a ta) (hb : Snd C xc b tb) : Snd C xc (.BinOp a .RShift b pos) (e2 pShr ta tb) := fun τ n Q h => ex_shr (sE2 ha hb h fun x y r e q => by
  unfold pShr at e; split at e
  · split at e
    · rename_i hl; cases e; exact ⟨_, _, rfl, rfl, hl, q⟩
    · cases e
  · cases e)
theorem snd_band (ha : Snd C xc a ta) (hb : Snd C xc b tb) : Snd C xc (.BinOp a .BitAnd b pos) (e2 pBand ta tb) := fun τ n Q h => ex_band (sE2 ha hb h fun x y r e q => by
  unfold pBand at e; split at e
  · cases e; exact ⟨_, _, rfl, rfl, q⟩
  · cases e)
theorem snd_neg (ha : Snd C xc a ta) : Snd C xc (.UnaryOp .USub a pos) (e1 pNeg ta) := fun τ n Q h => ex_neg (sE1 ha h fun x r e q => by
  unfold pNeg at e; split at e
  · cases e; exact ⟨_, rfl, q⟩
  · cases e)
/-! comparisons -/
theorem cLt_of {x y : Av} {r : Bool} (e : cLt x y = some r) : ∃ i j, x = aI i ∧ y = aI j ∧ r = decide (i < j) := by
  unfold cLt at e; split at e
  · cases e; exact ⟨_, _, rfl, rfl, rfl⟩
  · cases e
theorem cLe_of {x y : Av} {r : Bool} (e : cLe x y = some r) : ∃ i j, x = aI i ∧ y = aI j ∧ r = decide (i ≤ j) := by
  unfold cLe at e; split at e
  · cases e; exact ⟨_, _, rfl, rfl, rfl⟩
  · cases e
theorem cGt_of {x y : Av} {r : Bool} (e : cGt x y = some r) : ∃ i j, x = aI i ∧ y = aI j ∧ r = decide (j < i) := by
  unfold cGt at e; split at e
  · cases e; exact ⟨_, _, rfl, rfl, rfl⟩
  · cases e
theorem cGe_of {x y : Av} {r : Bool} (e : cGe x y = some r) : ∃ i j, x = aI i ∧ y = aI j ∧ r = decide (j ≤ i) := by
  unfold cGe at e; split at e
  · cases e; exact ⟨_, _, rfl, rfl, rfl⟩
  · cases e
theorem pB_of {c : Av → Av → Option Bool} {x y r : Av} (e : pB c x y = some r) : ∃ k, c x y = some k ∧ r = aB k := by
  obtain ⟨k, h1, h2⟩ := Option.map_eq_some_iff.mp e
  exact ⟨k, h1, h2.symm⟩
theorem snd_lt (ha : Snd C xc a ta) (hb : Snd C xc b tb) : Snd C xc (.Compare a [.Lt] [b] pos) (e2 (pB cLt) ta tb) := fun τ n Q h => ex_lt (sE2 ha hb h fun x y r e q => by
  obtain ⟨k, e1, rfl⟩ := pB_of e; obtain ⟨i, j, rfl, rfl, rfl⟩ := cLt_of e1; exact ⟨_, _, rfl, rfl, q⟩)
theorem snd_le (ha : Snd C xc a ta) (hb : Snd C xc b tb) : Snd C xc (.Compare a [.LtE] [b] pos) (e2 (pB cLe) ta tb) := fun τ n Q h => ex_le (sE2 ha hb h fun x y r e q => by
  obtain ⟨k, e1, rfl⟩ := pB_of e; obtain ⟨i, j, rfl, rfl, rfl⟩ := cLe_of e1; exact ⟨_, _, rfl, rfl, q⟩)
theorem snd_gt (ha : Snd C xc a ta) (hb : Snd C xc b tb) : Snd C xc (.Compare a [.Gt] [b] pos) (e2 (pB cGt) ta tb) := fun τ n Q h => ex_gt (sE2 ha hb h fun x y r e q => by
  obtain ⟨k, e1, rfl⟩ := pB_of e; obtain ⟨i, j, rfl, rfl, rfl⟩ := cGt_of e1; exact ⟨_, _, rfl, rfl, q⟩)
theorem snd_ge (ha : Snd C xc a ta) (hb : Snd C xc b tb) : Snd C xc (.Compare a [.GtE] [b] pos) (e2 (pB cGe) ta tb) := fun τ n Q h => ex_ge (sE2 ha hb h fun x y r e q => by
  obtain ⟨k, e1, rfl⟩ := pB_of e; obtain ⟨i, j, rfl, rfl, rfl⟩ := cGe_of e1; exact ⟨_, _, rfl, rfl, q⟩)
theorem sdT_lt (ha : Snd C xc a ta) (hb : Snd C xc b tb) : SndT C xc (.Compare a [.Lt] [b] pos) (b2 cLt ta tb) := fun τ n Q h => et_lt (sE2b ha hb h fun x y r e q => by
  obtain ⟨i, j, rfl, rfl, rfl⟩ := cLt_of e; exact ⟨_, _, rfl, rfl, _, rfl, q⟩)
theorem sdT_le (ha : Snd C xc a ta) (hb : Snd C xc b tb) : SndT C xc (.Compare a [.LtE] [b] pos) (b2 cLe ta tb) := fun τ n Q h => et_le (sE2b ha hb h fun x y r e q => by
  obtain ⟨i, j, rfl, rfl, rfl⟩ := cLe_of e; exact ⟨_, _, rfl, rfl, _, rfl, q⟩)
theorem sdT_gt (ha : Snd C xc a ta) (hb : Snd C xc b tb) : SndT C xc (.Compare a [.Gt] [b] pos) (b2 cGt ta tb) := fun τ n Q h => et_gt (sE2b ha hb h fun x y r e q => by
  obtain ⟨i, j, rfl, rfl, rfl⟩ := cGt_of e; exact ⟨_, _, rfl, rfl, _, rfl, q⟩)
theorem sdT_ge (ha : Snd C xc a ta) (hb : Snd C xc b tb) : SndT C xc (.Compare a [.GtE] [b] pos) (b2 cGe ta tb) := fun τ n Q h => et_ge (sE2b ha hb h fun x y r e q => by
  obtain ⟨i, j, rfl, rfl, rfl⟩ := cGe_of e; exact ⟨_, _, rfl, rfl, _, rfl, q⟩)
/-- == of ints, texts, data -/
theorem cEq_of {x y : Av} {r : Bool} (e : cEq x y = some r) : (∃ i j, x = aI i ∧ y = aI j ∧ r = decide (i = j)) ∨ (∃ i j, x = .d (.str i) ∧ y = .d (.str j) ∧ r = decide (i = j)) ∨ ∃ d d', x = .d d ∧ y = .d d' ∧ SeqAt.shaped d = true ∧ SeqAt.shaped d' = true ∧ r = PyData.eqv d d' := by
  unfold cEq at e; split at e
  · cases e; exact .inl ⟨_, _, rfl, rfl, rfl⟩
  · cases e; exact .inr (.inl ⟨_, _, rfl, rfl, rfl⟩)
  · unfold cEqD at e; split at e
    · rename_i h; cases e; exact .inr (.inr ⟨_, _, rfl, rfl, h.1, h.2, rfl⟩)
    · cases e
  · cases e
theorem rr_eqA {Q : Av → List Sl → Nat → Prop} {x y : Av} {r : Bool} {τ : List Sl} {n : Nat} (e : cEq x y = some r) (q : Q (aB r) τ n) : RR C (fun x y H Q => rEq x y H Q ∨ rEqD C.X.K x y H Q) x y τ n Q := by
  rcases cEq_of e with ⟨i, j, rfl, rfl, rfl⟩ | ⟨i, j, rfl, rfl, rfl⟩ | ⟨d, d', rfl, rfl, h1, h2, rfl⟩
  · exact rr_or (.inl (rr_eqI ⟨_, _, rfl, rfl, q⟩))
  · exact rr_or (.inl (rr_eqS ⟨_, _, rfl, rfl, q⟩))
  · exact rr_or (.inr (rr_eqD ⟨_, _, rfl, rfl, h1, h2, q⟩))
theorem rr_neA {Q : Av → List Sl → Nat → Prop} {x y : Av} {r : Bool} {τ : List Sl} {n : Nat} (e : cEq x y = some r) (q : Q (aB (!r)) τ n) : RR C (fun x y H Q => rNe x y H Q ∨ rNeD C.X.K x y H Q) x y τ n Q := by
  rcases cEq_of e with ⟨i, j, rfl, rfl, rfl⟩ | ⟨i, j, rfl, rfl, rfl⟩ | ⟨d, d', rfl, rfl, h1, h2, rfl⟩
  · exact rr_or (.inl (rr_neI ⟨_, _, rfl, rfl, q⟩))
  · exact rr_or (.inl (rr_neS ⟨_, _, rfl, rfl, q⟩))
  · exact rr_or (.inr (rr_neD ⟨_, _, rfl, rfl, h1, h2, q⟩))
theorem cNe_of {x y : Av} {r : Bool} (e : cNe x y = some r) : ∃ k, cEq x y = some k ∧ r = !k := by
  obtain ⟨k, h1, h2⟩ := Option.map_eq_some_iff.mp e
  exact ⟨k, h1, h2.symm⟩
theorem snd_eq {k : Nat} (hr : Room k C.X.A) (ha : Snd C xc a ta) (hb : Snd C xc b tb) : Snd C xc (.Compare a [.Eq] [b] pos) (e2 (pB cEq) ta tb) := fun τ n Q h =>
  ex_cmp (op_eq.or (op_eqD hr.units)) (nomark _) (sE2 ha hb h fun x y r e q => by obtain ⟨k, e1, rfl⟩ := pB_of e; exact rr_eqA e1 q)
theorem snd_ne {k : Nat} (hr : Room k C.X.A) (ha : Snd C xc a ta) (hb : Snd C xc b tb) : Snd C xc (.Compare a [.NotEq] [b] pos) (e2 (pB cNe) ta tb) := fun τ n Q h =>
  ex_cmp (op_ne.or (op_neD hr.units)) (nomark _) (sE2 ha hb h fun x y r e q => by obtain ⟨k, e1, rfl⟩ := pB_of e; obtain ⟨k, e2, rfl⟩ := cNe_of e1; exact rr_neA e2 q)
theorem sdT_eq {k : Nat} (hr : Room k C.X.A) (ha : Snd C xc a ta) (hb : Snd C xc b tb) : SndT C xc (.Compare a [.Eq] [b] pos) (b2 cEq ta tb) := fun τ n Q h =>
  et_cmp (op_eq.or (op_eqD hr.units)) (nomark _) (sE2b ha hb h fun x y r e q => rr_eqA e ⟨_, rfl, q⟩)
theorem sdT_ne {k : Nat} (hr : Room k C.X.A) (ha : Snd C xc a ta) (hb : Snd C xc b tb) : SndT C xc (.Compare a [.NotEq] [b] pos) (b2 cNe ta tb) := fun τ n Q h =>
  et_cmp (op_ne.or (op_neD hr.units)) (nomark _) (sE2b ha hb h fun x y r e q => by obtain ⟨k, e2, rfl⟩ := cNe_of e; exact rr_neA e2 ⟨_, rfl, q⟩)
theorem cIn_of {x y : Av} {r : Bool} (e : cIn x y = some r) : ∃ d ds, x = .d d ∧ y = .d (.list ds) ∧ SeqAt.shaped d = true ∧ SeqAt.shaped (.list ds) = true ∧ r = ds.any fun z => PyData.eqv z d := by
  unfold cIn at e; split at e
  · split at e
    · rename_i h; cases e; exact ⟨_, _, rfl, rfl, h.1, h.2, rfl⟩
    · cases e
  · cases e
theorem cNi_of {x y : Av} {r : Bool} (e : cNi x y = some r) : ∃ k, cIn x y = some k ∧ r = !k := by
  obtain ⟨k, h1, h2⟩ := Option.map_eq_some_iff.mp e
  exact ⟨k, h1, h2.symm⟩
theorem snd_in {k : Nat} (hr : Room k C.X.A) (hm : behindInMarks .In b = false) (ha : Snd C xc a ta) (hb : Snd C xc b tb) : Snd C xc (.Compare a [.In] [b] pos) (e2 (pB cIn) ta tb) := fun τ n Q h =>
  ex_cmp (op_inD (by have := hr.un; omega)) hm (sE2 ha hb h fun x y r e q => by obtain ⟨k, e1, rfl⟩ := pB_of e; obtain ⟨d, ds, rfl, rfl, h1, h2, rfl⟩ := cIn_of e1; exact rr_inD ⟨_, _, rfl, rfl, h1, h2, q⟩)
theorem snd_ni {k : Nat} (hr : Room k C.X.A) (hm : behindInMarks .NotIn b = false) (ha : Snd C xc a ta) (hb : Snd C xc b tb) : Snd C xc (.Compare a [.NotIn] [b] pos) (e2 (pB cNi) ta tb) := fun τ n Q h =>
  ex_cmp (op_notInD (by have := hr.un; omega)) hm (sE2 ha hb h fun x y r e q => by obtain ⟨k, e1, rfl⟩ := pB_of e; obtain ⟨k, e2, rfl⟩ := cNi_of e1; obtain ⟨d, ds, rfl, rfl, h1, h2, rfl⟩ := cIn_of e2; exact rr_notinD ⟨_, _, rfl, rfl, h1, h2, q⟩)
theorem sdT_in {k : Nat} (hr : Room k C.X.A) (hm : behindInMarks .In b = false) (ha : Snd C xc a ta) (hb : Snd C xc b tb) : SndT C xc (.Compare a [.In] [b] pos) (b2 cIn ta tb) := fun τ n Q h =>
  et_inD hr hm (sE2b ha hb h fun x y r e q => by obtain ⟨d, ds, rfl, rfl, h1, h2, rfl⟩ := cIn_of e; exact ⟨_, _, rfl, rfl, h1, h2, q⟩)
theorem sdT_ni {k : Nat} (hr : Room k C.X.A) (hm : behindInMarks .NotIn b = false) (ha : Snd C xc a ta) (hb : Snd C xc b tb) : SndT C xc (.Compare a [.NotIn] [b] pos) (b2 cNi ta tb) := fun τ n Q h =>
  et_notinD hr hm (sE2b ha hb h fun x y r e q => by obtain ⟨k, e2, rfl⟩ := cNi_of e; obtain ⟨d, ds, rfl, rfl, h1, h2, rfl⟩ := cIn_of e2; exact ⟨_, _, rfl, rfl, h1, h2, q⟩)
theorem snd_isN {j} {p2 : Pos} (ha : Snd C xc a ta) : Snd C xc (.Compare a [.Is] [.Constant .none j p2] pos) (e1 (fun x => some (aB (isNoneD x))) ta) := fun τ n Q h =>
  ex_is (sE1 ha h fun x r e q => ex_none ⟨rfl, by cases e; exact q⟩)
theorem snd_isNn {j} {p2 : Pos} (ha : Snd C xc a ta) : Snd C xc (.Compare a [.IsNot] [.Constant .none j p2] pos) (e1 (fun x => some (aB (!isNoneD x))) ta) := fun τ n Q h =>
  ex_isnot (sE1 ha h fun x r e q => ex_none ⟨rfl, by cases e; exact q⟩)
theorem sdT_isN {j} {p2 : Pos} (ha : Snd C xc a ta) : SndT C xc (.Compare a [.Is] [.Constant .none j p2] pos) (b1 (fun x => some (isNoneD x)) ta) := fun τ n Q h =>
  et_is (sE1b ha h fun x r e q => ex_none ⟨rfl, by cases e; exact q⟩)
theorem sdT_isNn {j} {p2 : Pos} (ha : Snd C xc a ta) : SndT C xc (.Compare a [.IsNot] [.Constant .none j p2] pos) (b1 (fun x => some (!isNoneD x)) ta) := fun τ n Q h =>
  et_isnot (sE1b ha h fun x r e q => ex_none ⟨rfl, by cases e; exact q⟩)
theorem asI_of {x : Av} {i : Int} (e : asI x = some i) : x = aI i := by
  unfold asI at e; split at e
  · cases e; rfl
  · cases e
theorem asB_of {x : Av} {i : Bool} (e : asB x = some i) : x = aB i := by
  unfold asB at e; split at e
  · cases e; rfl
  · cases e
theorem asL_of {x : Av} {ds : List PyData} (e : asL x = some ds) : x = .d (.list ds) := by
  unfold asL at e; split at e
  · cases e; rfl
  · cases e
theorem asLT_of {x : Av} {ds : List PyData} (e : asLT x = some ds) : x = .d (.list ds) ∨ x = .d (.tuple ds) := by
  unfold asLT at e; split at e
  · cases e; exact .inl rfl
  · cases e; exact .inr rfl
  · cases e
theorem asD_of {x : Av} {d : PyData} (e : asD x = some d) : x = .d d := by
  unfold asD at e; split at e
  · cases e; rfl
  · cases e
theorem snd_chLe (hm : lastMarks [CmpOp.LtE, .LtE] [b, c] = false) (ha : Snd C xc a ta) (hb : Snd C xc b tb) (hc : Snd C xc c tc) : Snd C xc (.Compare a [.LtE, .LtE] [b, c] pos) (eChLe ta tb tc) := fun τ n Q h =>
  ex_chain_le hm (ha τ n _ ((pst_bnd h).imp fun x h1 => hb τ n _ ((pst_bnd h1).imp fun y h2 => by
    obtain ⟨i, e1, h3⟩ := pst_lif (pst_bnd h2)
    obtain ⟨j, e2, h4⟩ := pst_lif (pst_bnd h3)
    refine ⟨i, j, asI_of e1, asI_of e2, fun le => ?_, fun le => ?_⟩
    · rw [if_pos le] at h4
      refine hc τ n _ ((pst_bnd h4).imp fun z h5 => ?_)
      obtain ⟨k, e3, h6⟩ := pst_lif (pst_bnd h5)
      exact ⟨k, asI_of e3, h6⟩
    · rw [if_neg le] at h4; exact h4)))
theorem sdT_chLe (hm : lastMarks [CmpOp.LtE, .LtE] [b, c] = false) (ha : Snd C xc a ta) (hb : Snd C xc b tb) (hc : Snd C xc c tc) : SndT C xc (.Compare a [.LtE, .LtE] [b, c] pos) (bChLe ta tb tc) := fun τ n Q h =>
  et_chain_le hm (ha τ n _ ((pst_bnd h).imp fun x h1 => hb τ n _ ((pst_bnd h1).imp fun y h2 => by
    obtain ⟨i, e1, h3⟩ := pst_lif (pst_bnd h2)
    obtain ⟨j, e2, h4⟩ := pst_lif (pst_bnd h3)
    refine ⟨i, j, asI_of e1, asI_of e2, fun le => ?_, fun le => ?_⟩
    · rw [if_pos le] at h4
      refine hc τ n _ ((pst_bnd h4).imp fun z h5 => ?_)
      obtain ⟨k, e3, h6⟩ := pst_lif (pst_bnd h5)
      exact ⟨k, asI_of e3, h6⟩
    · rw [if_neg le] at h4; exact h4)))
theorem sdT_chLeLt (hm : lastMarks [CmpOp.LtE, .Lt] [b, c] = false) (ha : Snd C xc a ta) (hb : Snd C xc b tb) (hc : Snd C xc c tc) : SndT C xc (.Compare a [.LtE, .Lt] [b, c] pos) (bChLeLt ta tb tc) := fun τ n Q h =>
  et_chain_lelt hm (ha τ n _ ((pst_bnd h).imp fun x h1 => hb τ n _ ((pst_bnd h1).imp fun y h2 => by
    obtain ⟨i, e1, h3⟩ := pst_lif (pst_bnd h2)
    obtain ⟨j, e2, h4⟩ := pst_lif (pst_bnd h3)
    refine ⟨i, j, asI_of e1, asI_of e2, fun le => ?_, fun le => ?_⟩
    · rw [if_pos le] at h4
      refine hc τ n _ ((pst_bnd h4).imp fun z h5 => ?_)
      obtain ⟨k, e3, h6⟩ := pst_lif (pst_bnd h5)
      exact ⟨k, asI_of e3, h6⟩
    · rw [if_neg le] at h4; exact h4)))
/-! truths -/
theorem sdT_not {t : EvB} (h : SndT C xc a t) : SndT C xc (.UnaryOp .Not a pos) (tNot t) := fun τ n Q hp => et_not (h τ n _ ((pst_bnd hp).imp fun b q => q))
theorem sdW_one {op : BoolOp} {t : EvB} (h : SndT C xc a t) : SndW C xc (.BoolOp op [a] pos) t := fun τ n Q hp => by
  cases op
  · exact ew_and1 (h τ n _ hp)
  · exact ew_or1 (h τ n _ hp)
theorem sdW_and {t u : EvB} (h : SndT C xc a t) (h2 : SndW C xc (.BoolOp .And (b :: es) pos) u) : SndW C xc (.BoolOp .And (a :: b :: es) pos) (tAnd t u) := fun τ n Q hp =>
  ew_and (h τ n _ ((pst_bnd hp).imp fun v q => ⟨fun e => h2 τ n _ (by rw [if_pos e] at q; exact q), fun e => by rw [if_neg (by rw [e]; decide)] at q; exact q⟩))
theorem sdW_or {t u : EvB} (h : SndT C xc a t) (h2 : SndW C xc (.BoolOp .Or (b :: es) pos) u) : SndW C xc (.BoolOp .Or (a :: b :: es) pos) (tOr t u) := fun τ n Q hp =>
  ew_or (h τ n _ ((pst_bnd hp).imp fun v q => ⟨fun e => h2 τ n _ (by rw [if_neg (by rw [e]; decide)] at q; exact q), fun e => by rw [if_pos e] at q; exact q⟩))
theorem sdT_bop {op : BoolOp} {t : EvB} (h : SndW C xc (.BoolOp op es pos) t) : SndT C xc (.BoolOp op es pos) t := fun τ n Q hp => et_wB (h τ n _ hp)
theorem sdT_call {ks : List Keyword} (h : Snd C xc (.Call a es ks pos) ta) : SndT C xc (.Call a es ks pos) (b1 asB ta) := fun τ n Q hp => et_valC (sE1b h hp fun x r e q => ⟨_, asB_of e, q⟩)
theorem asTr_of {x : Av} {r : Bool} (e : asTr x = some r) : ∃ d, x = .d d ∧ (∀ z, d = .str z → z.length ≤ sizeLine) ∧ r = tru d := by
  unfold asTr at e; split at e
  · cases e
  · rename_i d hn; cases e; exact ⟨_, rfl, fun z hz => (hn z (by rw [hz])).elim, rfl⟩
  · cases e
theorem sdT_name {x : Str} (h : Snd C xc (.Name x pos) ta) : SndT C xc (.Name x pos) (b1 asTr ta) := fun τ n Q hp => et_trN (sE1b h hp fun x r e q => by
  obtain ⟨d, rfl, h1, rfl⟩ := asTr_of e; exact ⟨d, rfl, h1, q⟩)
theorem sdT_val (h : Snd C xc e ta) (he : ∀ whole, isTrue e C.X.env whole = (do let v ← whole; standAt e.pos; holding [v] (truthy v)) := by intro _; rfl) : SndT C xc e (b1 asTr ta) := fun τ n Q hp => et_tr (sE1b h hp fun x r e q => by
  obtain ⟨d, rfl, h1, rfl⟩ := asTr_of e; exact ⟨d, rfl, h1, q⟩) he
theorem snd_one {op : BoolOp} (h : Snd C xc a ta) : Snd C xc (.BoolOp op [a] pos) ta := fun τ n Q hp => ex_one (h τ n _ hp)
theorem snd_and (h : Snd C xc a ta) (h2 : Snd C xc (.BoolOp .And (b :: es) pos) tb) : Snd C xc (.BoolOp .And (a :: b :: es) pos) (vAnd ta tb) := fun τ n Q hp =>
  ex_and (h τ n _ ((pst_bnd hp).imp fun x h1 => by
    obtain ⟨v, e, q⟩ := pst_lif (pst_bnd h1)
    exact ⟨v, asB_of e, fun e => h2 τ n _ (by rw [if_pos e] at q; exact q), fun e => by rw [if_neg (by rw [e]; decide)] at q; exact q⟩))
theorem snd_or (h : Snd C xc a ta) (h2 : Snd C xc (.BoolOp .Or (b :: es) pos) tb) : Snd C xc (.BoolOp .Or (a :: b :: es) pos) (vOr ta tb) := fun τ n Q hp =>
  ex_or (h τ n _ ((pst_bnd hp).imp fun x h1 => by
    obtain ⟨v, e, q⟩ := pst_lif (pst_bnd h1)
    exact ⟨v, asB_of e, fun e => h2 τ n _ (by rw [if_neg (by rw [e]; decide)] at q; exact q), fun e => by rw [if_pos e] at q; exact q⟩))
theorem snd_not (h : Snd C xc a ta) : Snd C xc (.UnaryOp .Not a pos) (e1 (fun x => (asB x).map fun b => aB (!b)) ta) := fun τ n Q hp => ex_notV (sE1 h hp fun x r e q => by
  obtain ⟨v, h1, rfl⟩ := Option.map_eq_some_iff.mp e; exact ⟨v, asB_of h1, q⟩)
theorem snd_if (hc : SndT C xc c cc) (ha : Snd C xc a ta) (hb : Snd C xc b tb) : Snd C xc (.IfExp c a b pos) (eIf cc ta tb) := fun τ n Q hp =>
  ex_ifExp (hc τ n _ ((pst_bnd hp).imp fun v q => ⟨fun e => ha τ n _ (by rw [if_pos e] at q; exact q), fun e => hb τ n _ (by rw [if_neg (by rw [e]; decide)] at q; exact q)⟩))
/-! arguments, calls -/
theorem sdA_nil : SndA C xc [] aNil := fun τ n Q hp => ea_nil hp
theorem sdA_cons (h : Snd C xc e t) (h2 : SndA C xc es ts) (hs : starEach (e :: es) C.X.env = (false, eval e C.X.env) :: starEach es C.X.env := by rfl) : SndA C xc (e :: es) (aCons t ts) := fun τ n Q hp =>
  ea_cons (h τ n _ ((pst_bnd hp).imp fun x h1 => h2 τ n _ ((pst_bnd h1).imp fun xs q => q))) hs
theorem sEF {P : List Av → List Sl → Nat → Prop} {τ : List Sl} {n : Nat} {Q : Av → List Sl → Nat → Prop} {f : List Av → Option Av} (h : SndA C xc es ts) (hp : Pst C xc (eF f ts τ) τ n fun r => Q r τ n)
    (k : ∀ x r, f x = some r → Q r τ n → P x τ n) : EA C τ n es P := h τ n _ ((pst_bnd hp).imp fun x h2 => let ⟨r, e, q⟩ := pst_lif h2; k x r e q)
theorem pst_asp {f : List Av → Rs Av} {xs : List Av} {τ : List Sl} {n : Nat} {Q : Av → List Sl → Nat → Prop} (h : Pst C xc (f xs) τ n fun x => Q x τ n) : aspT xc f xs n (fun x n2 => Q x τ n2) (fun c n2 => C.E c τ n2) := by
  unfold aspT
  revert h
  cases f xs with
  | none => exact fun h => h
  | some r => cases r <;> exact fun h => h
theorem snd_call {z : Str} {p : Pos} {f : List Av → Rs Av} (F : Cl C z (aspT xc f)) (tk : Takes C.X C.CW) (h : SndA C xc (e :: es) ts) (he : starEach (e :: es) C.X.env = (false, eval e C.X.env) :: starEach es C.X.env := by rfl) (hpl : (backTo pos (starEach es C.X.env)).any (·.1) = false := by rfl) :
    Snd C xc (.Call (.Name z p) (e :: es) [] pos) (eCall f ts) := fun τ n Q hp => ex_cl F tk (h τ n _ ((pst_bnd hp).imp fun xs q => pst_asp q)) he hpl
theorem snd_lst (h : SndA C xc es ts) : Snd C xc (.List es pos) (eF fLst ts) := fun τ n Q hp => ex_lst (sEF h hp fun x r e q => by
  unfold fLst at e; split at e
  · rename_i ds hd; split at e
    · rename_i hl; cases e; exact ⟨ds, hd, hl, q⟩
    · cases e
  · cases e)
theorem snd_tup {k : Nat} (h : SndA C xc es ts) : Snd C xc (.Tuple es k pos) (eF fTup ts) := fun τ n Q hp => ex_tup (sEF h hp fun x r e q => by
  unfold fTup at e; split at e
  · rename_i ds hd; split at e
    · rename_i hl; cases e; exact ⟨ds, hd, hl, q⟩
    · cases e
  · cases e)
theorem snd_len {p : Pos} (hz : Bl C.X "len") (h : SndA C xc (e :: es) ts) (he : starEach (e :: es) C.X.env = (false, eval e C.X.env) :: starEach es C.X.env := by rfl) (hpl : (backTo pos (starEach es C.X.env)).any (·.1) = false := by rfl) :
    Snd C xc (.Call (.Name "len" p) (e :: es) [] pos) (eF fLen ts) := fun τ n Q hp => ex_lenA hz (sEF h hp fun x r e q => by
  unfold fLen at e; split at e
  · obtain ⟨m, h1, rfl⟩ := Option.map_eq_some_iff.mp e; exact ⟨_, m, rfl, h1, q⟩
  · cases e) he hpl
theorem snd_abs {p : Pos} (hz : Bl C.X "abs") (h : SndA C xc (e :: es) ts) (he : starEach (e :: es) C.X.env = (false, eval e C.X.env) :: starEach es C.X.env := by rfl) (hpl : (backTo pos (starEach es C.X.env)).any (·.1) = false := by rfl) :
    Snd C xc (.Call (.Name "abs" p) (e :: es) [] pos) (eF fAbs ts) := fun τ n Q hp => ex_abs hz (sEF h hp fun x r e q => by
  unfold fAbs at e; split at e
  · cases e; exact ⟨_, rfl, q⟩
  · cases e) he hpl
theorem snd_list {p : Pos} (hz : Bl C.X "list") (h : SndA C xc (e :: es) ts) (he : starEach (e :: es) C.X.env = (false, eval e C.X.env) :: starEach es C.X.env := by rfl) (hpl : (backTo pos (starEach es C.X.env)).any (·.1) = false := by rfl) :
    Snd C xc (.Call (.Name "list" p) (e :: es) [] pos) (eF fList ts) := fun τ n Q hp => ex_list hz (sEF h hp fun x r e q => by
  unfold fList at e; split at e
  · obtain ⟨ds, h1, rfl⟩ := Option.map_eq_some_iff.mp e
    exact ⟨ds, (asLT_of h1).imp (fun z => by rw [z]) (fun z => by rw [z]), q⟩
  · cases e) he hpl
theorem snd_sorted {k : Nat} {p : Pos} (hr : Room k C.X.A) (hz : Bl C.X "sorted") (h : SndA C xc (e :: es) ts) (he : starEach (e :: es) C.X.env = (false, eval e C.X.env) :: starEach es C.X.env := by rfl) (hpl : (backTo pos (starEach es C.X.env)).any (·.1) = false := by rfl) :
    Snd C xc (.Call (.Name "sorted" p) (e :: es) [] pos) (eF fSorted ts) := fun τ n Q hp => by
  intro pv σ G H R A k
  -- by the value
  have key : ∀ (P : List Av → Prop), EA C τ n (e :: es) (fun xs τ1 n1 => ∃ r, fSorted xs = some r ∧ Q r τ1 n1) := fun _ => sEF h hp fun x r e q => ⟨r, e, q⟩
  have K := key fun _ => True
  refine re_of (pe_callB (id := "sorted") (r := fun vs H Q => rSortedI C.X.K vs H Q ∨ rSrtLL C.X.K vs H Q) (fun pins s σ H xs us Q I r h => h.elim (fun h => cr_sortedI pins s σ H xs us Q I r h) fun h => cr_srtLL hr.units pins s σ H xs us Q I r h) hz.hg hz.hm boot_sorted1 pa_ra (by decide) (by decide) he hpl) ?_
  refine K pv σ G H _ A fun vs xs G' H' τ' n' A' e' r ⟨r1, er, q⟩ => ?_
  unfold fSorted at er
  split at er
  · rename_i ds
    split at er
    · rename_i ns hn
      cases er
      refine .inl (rc_sorted ⟨ns, by rw [intsOf_of hn], fun ns' h1 h2 => ?_⟩ pv σ G' H' R vs A' r (fun v x G2 H2 τ2 n2 A2 e2 rv hq => k v x G2 H2 τ2 n2 A2 (e'.trans e2) rv hq))
      rw [srtI_uniq h1 h2]; exact q
    · split at er
      · rename_i nss hn
        cases er
        exact .inr (rc_srtLL ⟨nss, by rw [llOf_of hn], q⟩ pv σ G' H' R vs A' r (fun v x G2 H2 τ2 n2 A2 e2 rv hq => k v x G2 H2 τ2 n2 A2 (e'.trans e2) rv hq))
      · cases er
  · cases er
theorem max_of {ns : List Int} {m : Int} (h : m ∈ ns) (h2 : ∀ y ∈ ns, y ≤ m) : ns.max? = some m := by
  rw [List.max?_eq_some_iff]; exact ⟨h, h2⟩
theorem min_of {ns : List Int} {m : Int} (h : m ∈ ns) (h2 : ∀ y ∈ ns, m ≤ y) : ns.min? = some m := by
  rw [List.min?_eq_some_iff]; exact ⟨h, h2⟩
theorem snd_max1 {p : Pos} (hc : C.X.calm = true) (hz : Bl C.X "max") (h : SndA C xc [e] ts) (he : starEach [e] C.X.env = (false, eval e C.X.env) :: starEach [] C.X.env := by rfl) : Snd C xc (.Call (.Name "max" p) [e] [] pos) (eF fMax1 ts) := fun τ n Q hp =>
  ex_max hc hz (sEF h hp fun x r e q => by
    unfold fMax1 at e
    split at e
    · unfold fMax at e; split at e
      · obtain ⟨ns, h1, h2⟩ := Option.bind_eq_some_iff.mp e
        obtain ⟨m, h3, rfl⟩ := Option.map_eq_some_iff.mp h2
        rename_i ds heq; cases heq
        refine ⟨ns, by rw [intsOf_of h1], ?_, fun m' hm hy => ?_⟩
        · cases ns with
          | nil => cases h3
          | cons _ _ => simp
        · rw [max_of hm hy] at h3; cases h3; exact q
      · rename_i heq; cases heq
      · cases e
    · cases e) he
theorem snd_min1 {p : Pos} (hc : C.X.calm = true) (hz : Bl C.X "min") (h : SndA C xc [e] ts) (he : starEach [e] C.X.env = (false, eval e C.X.env) :: starEach [] C.X.env := by rfl) : Snd C xc (.Call (.Name "min" p) [e] [] pos) (eF fMin1 ts) := fun τ n Q hp =>
  ex_min hc hz (sEF h hp fun x r e q => by
    unfold fMin1 at e
    split at e
    · unfold fMin at e; split at e
      · obtain ⟨ns, h1, h2⟩ := Option.bind_eq_some_iff.mp e
        obtain ⟨m, h3, rfl⟩ := Option.map_eq_some_iff.mp h2
        rename_i ds heq; cases heq
        refine ⟨ns, by rw [intsOf_of h1], ?_, fun m' hm hy => ?_⟩
        · cases ns with
          | nil => cases h3
          | cons _ _ => simp
        · rw [min_of hm hy] at h3; cases h3; exact q
      · rename_i heq; cases heq
      · cases e
    · cases e) he
def fMax2 : List Av → Option Av
  | [.d (.int i), .d (.int j)] => some (aI (if j > i then j else i))
  | _ => none
def fMin2 : List Av → Option Av
  | [.d (.int i), .d (.int j)] => some (aI (if j < i then j else i))
  | _ => none
theorem snd_max2 {p : Pos} (hc : C.X.calm = true) (hz : Bl C.X "max") (h : SndA C xc [e, a] ts) (he : starEach [e, a] C.X.env = (false, eval e C.X.env) :: starEach [a] C.X.env := by rfl) (hpl : (backTo pos (starEach [a] C.X.env)).any (·.1) = false := by rfl) : Snd C xc (.Call (.Name "max" p) [e, a] [] pos) (eF fMax2 ts) := fun τ n Q hp =>
  ex_max2 hc hz (sEF h hp fun x r e q => by
    unfold fMax2 at e; split at e
    · cases e; exact ⟨_, _, rfl, q⟩
    · cases e) he hpl
theorem snd_min2 {p : Pos} (hc : C.X.calm = true) (hz : Bl C.X "min") (h : SndA C xc [e, a] ts) (he : starEach [e, a] C.X.env = (false, eval e C.X.env) :: starEach [a] C.X.env := by rfl) (hpl : (backTo pos (starEach [a] C.X.env)).any (·.1) = false := by rfl) : Snd C xc (.Call (.Name "min" p) [e, a] [] pos) (eF fMin2 ts) := fun τ n Q hp =>
  ex_min2 hc hz (sEF h hp fun x r e q => by
    unfold fMin2 at e; split at e
    · cases e; exact ⟨_, _, rfl, q⟩
    · cases e) he hpl
theorem snd_sum {p : Pos} (hc : C.X.calm = true) (hz : Bl C.X "sum") (h : SndA C xc [e] ts) (he : starEach [e] C.X.env = (false, eval e C.X.env) :: starEach [] C.X.env := by rfl) : Snd C xc (.Call (.Name "sum" p) [e] [] pos) (eF fSum ts) := fun τ n Q hp =>
  ex_sum hc hz (sEF h hp fun x r e q => by
    unfold fSum at e; split at e
    · obtain ⟨ns, h1, rfl⟩ := Option.map_eq_some_iff.mp e
      exact ⟨ns, by rw [intsOf_of h1], q⟩
    · cases e) he
theorem snd_intB {p : Pos} (hz : Bl C.X "int") (h : SndA C xc [e] ts) (he : starEach [e] C.X.env = (false, eval e C.X.env) :: starEach [] C.X.env := by rfl) : Snd C xc (.Call (.Name "int" p) [e] [] pos) (eF fInt ts) := fun τ n Q hp =>
  ex_intB hz (sEF h hp fun x r e q => by
    unfold fInt at e; split at e
    · cases e; exact .inl ⟨_, rfl, q⟩
    · cases e; exact .inr ⟨_, rfl, q⟩
    · cases e) he
theorem snd_isi {p p2 : Pos} {T : String} {z : Str} (kt : Kit T z) (hz : Bl C.X "isinstance") (hT : Bl C.X z) (h : Snd C xc e t) (he : starEach [e, .Name z p2] C.X.env = (false, eval e C.X.env) :: starEach [.Name z p2] C.X.env := by rfl)
    (he2 : starEach [.Name z p2] C.X.env = (false, eval (.Name z p2) C.X.env) :: starEach [] C.X.env := by rfl) (hpl : (backTo pos (starEach [.Name z p2] C.X.env)).any (·.1) = false := by rfl) :
    Snd C xc (.Call (.Name "isinstance" p) [e, .Name z p2] [] pos) (e1 (pIsi T) t) := fun τ n Q hp => ex_isi kt hz hT (sE1 h hp fun x r e q => by
  unfold pIsi at e; split at e
  · rename_i hx; cases e; exact ⟨hx, q⟩
  · cases e) he he2 hpl
theorem snd_tupleL {p : Pos} (hz : Bl C.X "tuple") (h : Snd C xc a ta) (na : starEach [a] C.X.env = (false, eval a C.X.env) :: starEach [] C.X.env := by rfl) : Snd C xc (.Call (.Name "tuple" p) [a] [] pos) (e1 pTupL ta) := fun τ n Q hp => ex_tupleL hz (sE1 h hp fun x r e q => by
  unfold pTupL at e; split at e
  · cases e; exact ⟨_, rfl, q⟩
  · cases e) na
theorem snd_lenSet {p p2 q : Pos} (hz : Bl C.X "len") (hz2 : Bl C.X "set") (hc : C.X.calm = true) (h : Snd C xc a ta) (na : starEach [a] C.X.env = (false, eval a C.X.env) :: starEach [] C.X.env := by rfl) : Snd C xc (.Call (.Name "len" p) [.Call (.Name "set" p2) [a] [] q] [] pos) (e1 pLenSet ta) := fun τ n Q hp => ex_lenSetD hz hz2 hc (sE1 h hp fun x r e q => by
  unfold pLenSet at e; split at e
  · obtain ⟨ns, h1, h2⟩ := Option.bind_eq_some_iff.mp e
    split at h2
    · rename_i hl; cases h2; exact ⟨ns, by rw [intsOf_of h1], hl, q⟩
    · cases h2
  · cases e) na
/-! items, slices -/
theorem pIx_rr {x y r : Av} {τ : List Sl} {n : Nat} {Q : Av → List Sl → Nat → Prop} (e : pIx x y = some r) (q : Q r τ n) : RR C (fun x y H Q => rIxL C.X.K x y H Q ∨ rIxT C.X.K x y H Q) x y τ n Q := by
  unfold pIx at e
  split at e
  · obtain ⟨d, h1, rfl⟩ := Option.map_eq_some_iff.mp e
    exact rr_or (.inl (rr_ixL ⟨_, _, d, rfl, rfl, h1, q⟩))
  · obtain ⟨d, h1, rfl⟩ := Option.map_eq_some_iff.mp e
    exact rr_or (.inr (rr_ixT ⟨_, _, d, rfl, rfl, h1, q⟩))
  · rename_i ns i
    obtain ⟨m, h1, rfl⟩ := Option.map_eq_some_iff.mp e
    refine rr_or (.inl fun pv σ G H R v u A rx ry k => ?_)
    obtain ⟨p, rfl, hp⟩ := rx
    have hv : atI (ns.map V.int) i = some (.int m) := by
      unfold atI at h1 ⊢
      rw [List.length_map]
      cases hq : ixN ns.length i with
      | none => rw [hq] at h1; cases h1
      | some j =>
        rw [hq] at h1
        have h1 : ns[j]? = some m := h1
        show (ns.map V.int)[j]? = some (V.int m)
        rw [List.getElem?_map, h1]; rfl
    exact ⟨p, _, i, .int m, rfl, ry.int, ex_l A.gh hp, hv, k _ _ G H τ n A (Ex.refl _) (rv_int _) q⟩
  · cases e
theorem snd_ix (hs : PlainIx b) (ha : Snd C xc a ta) (hb : Snd C xc b tb) : Snd C xc (.Subscript a b pos) (e2 pIx ta tb) := fun τ n Q hp => by
  have key : EX C τ n a fun x τ1 n1 => EX C τ1 n1 b fun y τ2 n2 => RR C (fun x y H Q => rIxL C.X.K x y H Q ∨ rIxT C.X.K x y H Q) x y τ2 n2 Q := sE2 ha hb hp fun x y r e q => pIx_rr e q
  intro pv σ G H R A k
  refine re_of (pe_ix (r := fun x y H Q => rIxL C.X.K x y H Q ∨ rIxT C.X.K x y H Q) (fun value slice pins s σ H x y v u Q I rx ry h hs => h.elim (fun h => ix_list value slice pins s σ H x y v u Q I rx ry h hs) fun h => ix_tup value slice pins s σ H x y v u Q I rx ry h hs) pe_re pe_re hs) ?_
  refine key pv σ G H _ A fun v x G1 H1 τ1 n1 A1 e1 r1 h1 => ?_
  refine h1 pv σ G1 H1 _ A1 fun u y G2 H2 τ2 n2 A2 e2 r2 h2 => ?_
  exact h2 pv σ G2 H2 R v u A2 (r1.ex e2) r2 fun v' x' G' H' τ' n' A' e' r' q' => k v' x' G' H' τ' n' A' ((e1.trans e2).trans e') r' q'
theorem snd_ixD {k : Nat} (hr : Room k C.X.A) (hs : NoSl b) (ha : Snd C xc a ta) (hb : Snd C xc b tb) : Snd C xc (.Subscript a b pos) (e2 pIxD ta tb) := fun τ n Q hp => ex_ixD hr hs (sE2 ha hb hp fun x y r e q => by
  unfold pIxD at e; split at e
  · obtain ⟨d, h1, rfl⟩ := Option.map_eq_some_iff.mp e; exact ⟨_, _, d, rfl, rfl, h1, q⟩
  · cases e)
theorem asIs_of {x : Av} {ns : List Int} (e : asIs x = some ns) : x = aL ns := by
  unfold asIs at e; split at e
  · rw [intsOf_of e]
  · cases e
theorem idx_first {ns : List Int} {i : Int} (h : i ∈ ns) : ns[ns.idxOf i]? = some i ∧ ∀ m, m < ns.idxOf i → ns[m]? ≠ some i := by
  have hl := List.idxOf_lt_length_of_mem h
  refine ⟨?_, fun m hm e => ?_⟩
  · rw [List.getElem?_eq_getElem hl, List.getElem_idxOf hl]
  · obtain ⟨h1, h2⟩ := List.getElem?_eq_some_iff.mp e
    have h3 := List.not_of_lt_findIdx (p := (· == i)) (xs := ns) (i := m) hm
    simp [h2] at h3
theorem snd_index {apos : Pos} (ha : Snd C xc a ta) (hb : Snd C xc e tb) (hbase : attributeBase a "index" C.X.env (eval a C.X.env) = eval a C.X.env := by rfl)
    (hfew : ((backTo pos (starEach [e] C.X.env)).all (fun x => !x.1) && (backToKw pos (keywordEach [] C.X.env)).all (fun x => x.1.isSome)
      && decide (([e] : List Expr).length + ([] : List Keyword).length + (if ([] : List Keyword).isEmpty then 0 else 1) < 30)) = true := by rfl)
    (hline : (apos.endLine == pos.line) = true := by rfl) (he : starEach [e] C.X.env = (false, eval e C.X.env) :: starEach [] C.X.env := by rfl) :
    Snd C xc (.Call (.Attribute a "index" apos) [e] [] pos) (eIndex ta tb) := fun τ n Q hp =>
  ex_index (ha τ n _ ((pst_bnd hp).imp fun x h1 => by
    obtain ⟨ns, e1, h2⟩ := pst_lif (pst_bnd h1)
    refine ⟨ns, asIs_of e1, hb τ n _ ((pst_bnd h2).imp fun y h3 => ?_)⟩
    obtain ⟨i, e2, h4⟩ := pst_lif (pst_bnd h3)
    split at h4
    · rename_i hm
      exact ⟨i, _, asI_of e2, (idx_first hm).1, (idx_first hm).2, h4⟩
    · exact h4.elim)) hbase hfew hline he
theorem sdO_none : SndO C xc none oN := fun τ n Q hp => eo_none hp
theorem sdO_some (h : Snd C xc e t) : SndO C xc (some e) (oS t) := fun τ n Q hp => eo_some (h τ n _ ((pst_bnd hp).imp fun x h1 => by obtain ⟨i, e, q⟩ := pst_lif (pst_bnd h1); exact ⟨i, asI_of e, q⟩))
theorem snd_slice {lo hi : Option Expr} {p2 : Pos} {l h : List Sl → Rs (Option Int)} (ha : Snd C xc a ta) (hl : SndO C xc lo l) (hh : SndO C xc hi h) : Snd C xc (.Subscript a (.Slice lo hi none p2) pos) (eSl ta l h) := fun τ n Q hp =>
  ex_slice (ha τ n _ ((pst_bnd hp).imp fun x h1 => hl τ n _ ((pst_bnd h1).imp fun l h2 => hh τ n _ ((pst_bnd h2).imp fun u h3 => by obtain ⟨ds, e, q⟩ := pst_lif (pst_bnd h3); exact ⟨ds, asL_of e, q⟩))))
theorem snd_rev {k : Nat} {p1 p2 p3 : Pos} (h : Snd C xc a ta) : Snd C xc (.Subscript a (.Slice none none (some (.UnaryOp .USub (.Constant (.int 1) k p1) p2)) p3) pos) (e1 pRev ta) := fun τ n Q hp => ex_rev (sE1 h hp fun x r e q => by
  unfold pRev at e; split at e
  · cases e; exact ⟨_, rfl, q⟩
  · cases e)
/-! own lists read in place -/
theorem scB_of {x : Av} (h : scB x = true) : Scal x := by
  unfold scB at h; split at h <;> first | trivial | cases h
theorem pst_okO {α : Type} {r : Rs α} {x : α} {τ : List Sl} {n : Nat} {Q : α → Prop} (e : okO r = some x) (q : Q x) : Pst C xc r τ n Q := by
  rcases r with _ | r
  · cases e
  · cases r with
    | error z => cases e
    | ok y => cases e; exact q
theorem all_ints {l : List PyData} (h : l.all isInt = true) : ∃ ns, l = dints ns := by
  induction l with
  | nil => exact ⟨[], rfl⟩
  | cons d r ih =>
    simp only [List.all_cons, Bool.and_eq_true] at h
    obtain ⟨ns, rfl⟩ := ih h.2
    cases d with
    | int i => exact ⟨i :: ns, rfl⟩
    | _ => cases h.1
theorem snd_bor {i : Nat} (h : Snd C xc e t) : Snd C xc e (eBor i t) := fun τ n Q hp => by
  unfold eBor at hp
  split at hp
  · rename_i ds hi
    split at hp
    · rename_i ho
      split at hp
      · rename_i x hx
        split at hp
        · rename_i hs
          exact ex_borrow hi (owB_ok ho) (h _ n _ (pst_okO hx ⟨rfl, scB_of hs, hp⟩))
        · exact hp.elim
      · exact hp.elim
    · exact hp.elim
  · exact hp.elim
theorem sdT_bor {i : Nat} {t : EvB} (h : SndT C xc e t) : SndT C xc e (bBor i t) := fun τ n Q hp => by
  unfold bBor at hp
  split at hp
  · rename_i ds hi
    split at hp
    · rename_i ho
      obtain ⟨x, hx, q⟩ := pst_lif hp
      exact et_borrow hi (owB_ok ho) (h _ n _ (pst_okO hx ⟨rfl, q⟩))
    · exact hp.elim
  · exact hp.elim
theorem sdF_bor {i : Nat} {t : EvD} (h : SndF C xc e t) : SndF C xc e (dBor i t) := fun τ n Q hp => by
  unfold dBor at hp
  split at hp
  · rename_i ds hi
    split at hp
    · rename_i ho
      split at hp
      · rename_i x hx
        split at hp
        · rename_i hs
          exact ef_borrow hi (owB_ok ho) (h _ n _ (pst_okO hx ⟨rfl, all_ints hs, hp⟩))
        · exact hp.elim
      · exact hp.elim
    · exact hp.elim
  · exact hp.elim
theorem snd_lenO {i : Nat} {z : Str} {p p2 : Pos} (hl : Bl C.X "len") (hz : Nm C.X i z) (he : starEach [Expr.Name z p2] C.X.env = (false, eval (Expr.Name z p2) C.X.env) :: starEach [] C.X.env := by rfl) : Snd C xc (.Call (.Name "len" p) [.Name z p2] [] pos) (eLenO i) := fun τ n Q hp => by
  unfold eLenO at hp
  split at hp
  · rename_i ds hi; exact ex_lenO hl hz hi hp he
  · exact hp.elim
theorem snd_ixO {i : Nat} {z : Str} {p : Pos} (hz : Nm C.X i z) (hs : PlainIx b) (h : Snd C xc b t) : Snd C xc (.Subscript (.Name z p) b pos) (eIxO i t) := fun τ n Q hp => by
  unfold eIxO at hp
  split at hp
  · rename_i ds hi
    exact ex_ixO hz hi hs (h τ n _ ((pst_bnd hp).imp fun x h1 => by
      obtain ⟨j, e1, h2⟩ := pst_lif (pst_bnd h1)
      obtain ⟨y, e2, q⟩ := pst_lif h2
      obtain ⟨d, e3, rfl⟩ := Option.map_eq_some_iff.mp e2
      exact ⟨ds, j, d, hi, asI_of e1, e3, q⟩))
  · exact hp.elim
/-! fresh lists -/
theorem sdF_lst (h : SndA C xc es ts) : SndF C xc (.List es pos) (dF (eF fLst ts)) := fun τ n Q hp =>
  ef_lst (sEF (Q := fun x τ n => Pst C xc (lif (asL x)) τ n fun x => Q x τ n) h (pst_bnd hp) fun x r e q => by
    unfold fLst at e; split at e
    · rename_i ds hd; split at e
      · rename_i hl; cases e; exact ⟨ds, hd, hl, q⟩
      · cases e
    · cases e)
theorem sdF_list {p : Pos} (hz : Bl C.X "list") (h : SndA C xc (e :: es) ts) (he : starEach (e :: es) C.X.env = (false, eval e C.X.env) :: starEach es C.X.env := by rfl) (hpl : (backTo pos (starEach es C.X.env)).any (·.1) = false := by rfl) :
    SndF C xc (.Call (.Name "list" p) (e :: es) [] pos) (dF (eF fList ts)) := fun τ n Q hp => ef_list hz (sEF (Q := fun x τ n => Pst C xc (lif (asL x)) τ n fun x => Q x τ n) h (pst_bnd hp) fun x r e q => by
  unfold fList at e; split at e
  · obtain ⟨ds, h1, rfl⟩ := Option.map_eq_some_iff.mp e
    exact ⟨ds, (asLT_of h1).imp (fun z => by rw [z]) (fun z => by rw [z]), q⟩
  · cases e) he hpl
theorem sdF_slice {lo hi : Option Expr} {p2 : Pos} {l h : List Sl → Rs (Option Int)} (ha : Snd C xc a ta) (hl : SndO C xc lo l) (hh : SndO C xc hi h) : SndF C xc (.Subscript a (.Slice lo hi none p2) pos) (dF (eSl ta l h)) := fun τ n Q hp =>
  ef_slice (ha τ n _ ((pst_bnd (pst_bnd hp)).imp fun x h1 => hl τ n _ ((pst_bnd h1).imp fun l h2 => hh τ n _ ((pst_bnd h2).imp fun u h3 => by obtain ⟨ds, e, q⟩ := pst_lif (pst_bnd h3); exact ⟨ds, asL_of e, q⟩))))
theorem sdF_rev {k : Nat} {p1 p2 p3 : Pos} (h : Snd C xc a ta) : SndF C xc (.Subscript a (.Slice none none (some (.UnaryOp .USub (.Constant (.int 1) k p1) p2)) p3) pos) (dF (e1 pRev ta)) := fun τ n Q hp => ef_rev (sE1 (Q := fun x τ n => Pst C xc (lif (asL x)) τ n fun x => Q x τ n) h (pst_bnd hp) fun x r e q => by
  unfold pRev at e; split at e
  · cases e; exact ⟨_, rfl, q⟩
  · cases e)
/-! iterables -/
variable {tg : Expr}
theorem sdI_list (h : Snd C xc e t) : SndI C xc tg e (iL t) := fun τ n Q hp => ei_list (h τ n _ ((pst_bnd hp).imp fun x h1 => by obtain ⟨ds, e, q⟩ := pst_lif h1; exact ⟨ds, asL_of e, q⟩))
theorem sdI_tup (h : Snd C xc e t) : SndI C xc tg e (iT t) := fun τ n Q hp => ei_tup (h τ n _ ((pst_bnd hp).imp fun x h1 => by
  obtain ⟨ds, e, q⟩ := pst_lif h1
  unfold asT at e; split at e
  · cases e; exact ⟨_, rfl, q⟩
  · cases e))
theorem sdI_rg1 {p : Pos} (hz : Bl C.X "range") (h : Snd C xc e t) (hs : starEach [e] C.X.env = (false, eval e C.X.env) :: starEach [] C.X.env := by rfl) (hs2 : starEach [e] C.X.env = [(false, eval e C.X.env)] := by rfl) : SndI C xc tg (.Call (.Name "range" p) [e] [] pos) (iRg1 t) := fun τ n Q hp =>
  ei_range1 hz (ea_cons (h τ n _ ((pst_bnd hp).imp fun x h1 => ea_nil (by
    obtain ⟨j, e, h2⟩ := pst_lif (pst_bnd h1)
    split at h2
    · rename_i hj; exact ⟨j, by rw [asI_of e], hj.1, hj.2, h2⟩
    · exact h2.elim))) hs) hs2
theorem sdI_rg2 {p : Pos} (hz : Bl C.X "range") (h : Snd C xc e t) (h2 : Snd C xc a u) (hs : starEach [e, a] C.X.env = (false, eval e C.X.env) :: starEach [a] C.X.env := by rfl) (hs1 : starEach [a] C.X.env = (false, eval a C.X.env) :: starEach [] C.X.env := by rfl)
    (hs2 : starEach [e, a] C.X.env = [(false, eval e C.X.env), (false, eval a C.X.env)] := by rfl) (hs3 : starEach [a] C.X.env = [(false, eval a C.X.env)] := by rfl) : SndI C xc tg (.Call (.Name "range" p) [e, a] [] pos) (iRg2 t u) := fun τ n Q hp =>
  ei_range2 hz (ea_cons (h τ n _ ((pst_bnd hp).imp fun x h1 => ea_cons (h2 τ n _ ((pst_bnd h1).imp fun y h2 => ea_nil (by
    obtain ⟨i, e1, h3⟩ := pst_lif (pst_bnd h2)
    obtain ⟨j, e2, h4⟩ := pst_lif (pst_bnd h3)
    split at h4
    · rename_i hj; exact ⟨i, j, by rw [asI_of e1, asI_of e2], hj, h4⟩
    · exact h4.elim))) hs1)) hs) hs2 hs3
theorem sdI_en {p tpos : Pos} {elts : List Expr} {kk : Nat} (hz : Bl C.X "enumerate") (h : Snd C xc e t) (hs : starEach [e] C.X.env = (false, eval e C.X.env) :: starEach [] C.X.env := by rfl) (hs2 : starEach [e] C.X.env = [(false, eval e C.X.env)] := by rfl) : SndI C xc (.Tuple elts kk tpos) (.Call (.Name "enumerate" p) [e] [] pos) (iEn t) := fun τ n Q hp =>
  ei_enum hz (ea_cons (h τ n _ ((pst_bnd hp).imp fun x h1 => ea_nil (by
    obtain ⟨ds, e, h2⟩ := pst_lif (pst_bnd h1)
    exact ⟨ds, by rw [asL_of e], h2⟩))) hs) hs2
theorem sdI_rev {p : Pos} (hz : Bl C.X "reversed") (h : Snd C xc e t) (hs : starEach [e] C.X.env = (false, eval e C.X.env) :: starEach [] C.X.env := by rfl) (hs2 : starEach [e] C.X.env = [(false, eval e C.X.env)] := by rfl) : SndI C xc tg (.Call (.Name "reversed" p) [e] [] pos) (iRev t) := fun τ n Q hp =>
  ei_rev hz (ea_cons (h τ n _ ((pst_bnd hp).imp fun x h1 => ea_nil (by
    obtain ⟨ds, e, h2⟩ := pst_lif (pst_bnd h1)
    exact ⟨ds, by rw [asL_of e], h2⟩))) hs) hs2
theorem sdI_zip {p tpos : Pos} {elts : List Expr} {kk : Nat} (hz : Bl C.X "zip") (h : Snd C xc e t) (h2 : Snd C xc a u) (hs : starEach [e, a] C.X.env = (false, eval e C.X.env) :: starEach [a] C.X.env := by rfl) (hs1 : starEach [a] C.X.env = (false, eval a C.X.env) :: starEach [] C.X.env := by rfl)
    (hpl : (backTo pos (starEach [a] C.X.env)).any (·.1) = false := by rfl) : SndI C xc (.Tuple elts kk tpos) (.Call (.Name "zip" p) [e, a] [] pos) (iZip t u) := fun τ n Q hp =>
  ei_zip hz (ea_cons (h τ n _ ((pst_bnd hp).imp fun x h1 => ea_cons (h2 τ n _ ((pst_bnd h1).imp fun y h2 => ea_nil (by
    obtain ⟨ds, e1, h3⟩ := pst_lif (pst_bnd h2)
    obtain ⟨es, e2, h4⟩ := pst_lif (pst_bnd h3)
    exact ⟨ds, es, by rw [asL_of e1, asL_of e2], h4⟩))) hs1)) hs) hs hpl
end
end M

set_option Elab.async false
set_option linter.all false
set_option maxRecDepth 100000
set_option maxHeartbeats 4000000
namespace M
open PySem PySem.Spec PyProof.Rows L2
section
variable {C : Cn} {xc : Str → Addr} {a b c e : Expr} {es : List Expr} {pos : Pos} {ta tb tc t u : Ev} {ts : EvL} {cc : EvB} {D : AE} {τ : List Sl} {n : Nat} {st : Stmt} {sts : List Stmt} {s s2 : EvS}
theorem pstS_E {α : Type} {r : Rs α} {k : α → Option (Out × List Sl)} (h : PstS C xc (sE r τ k) n D) : Pst C xc r τ n fun x => PstS C xc (k x) n D := by
  rcases r with _ | r
  · exact h
  · cases r <;> exact h
/-! lists of statements -/
theorem sds_nil : SndSs C xc [] sNil := fun τ n D h => sxs_nil h
theorem sds_cons (h : SndS C xc st s) (h2 : SndSs C xc sts s2) : SndSs C xc (st :: sts) (sSeq s s2) := fun τ n D hp => by
  refine sxs_cons (h τ n _ ?_)
  unfold sSeq at hp
  revert hp
  cases s τ with
  | none => exact fun h => h
  | some r =>
    obtain ⟨o, τ'⟩ := r
    cases o with
    | nx => exact fun hp => h2 τ' n D hp
    | rt x => exact fun h => h
    | bk => exact fun h => h
    | ct => exact fun h => h
    | ex z => exact fun h => h
theorem sds_frz {i : Nat} (h : SndSs C xc sts s) : SndSs C xc sts (sFrz i s) := fun τ n D hp => by
  unfold sFrz at hp
  split at hp
  · rename_i ds hi; exact sxs_freeze hi (h _ n D hp)
  · exact hp.elim
theorem sds_open {st : Stmt} {r body : List Stmt} (h : SndSs C xc (st :: r) s) (e : body = st :: r) : SndSs C xc body s := by subst e; exact h
/-! statements -/
theorem sd_asg {i : Nat} {z : Str} {p : Pos} (nd : C.X.N.Nodup) (hz : Lm C.X i z) (h : Snd C xc e t) (hs : swapsWith e (some (.Name z p)) pos.line C.X.env = pure false) : SndS C xc (.Assign [.Name z p] e pos) (sAsg i t) := fun τ n D hp =>
  sx_asgE nd hz (h τ n _ ((pstS_E hp).imp fun x q => q)) hs
theorem sd_own {i : Nat} {z : Str} {p : Pos} {t : EvD} (nd : C.X.N.Nodup) (hz : Lm C.X i z) (h : SndF C xc e t) (hs : swapsWith e (some (.Name z p)) pos.line C.X.env = pure false) : SndS C xc (.Assign [.Name z p] e pos) (sOwn i t) := fun τ n D hp =>
  sx_ownE nd hz (h τ n _ ((pstS_E hp).imp fun x q => q)) hs
theorem sd_app {apos p cpos : Pos} {i : Nat} {z : Str} (hz : Nm C.X i z) (h : Snd C xc e t) (hbase : attributeBase (.Name z p) "append" C.X.env (eval (.Name z p) C.X.env) = eval (.Name z p) C.X.env := by rfl)
    (hfew : ((backTo cpos (starEach [e] C.X.env)).all (fun x => !x.1) && (backToKw cpos (keywordEach [] C.X.env)).all (fun x => x.1.isSome)
      && decide (([e] : List Expr).length + ([] : List Keyword).length + (if ([] : List Keyword).isEmpty then 0 else 1) < 30)) = true := by rfl)
    (hline : (apos.endLine == cpos.line) = true := by rfl) (hs : starEach [e] C.X.env = (false, eval e C.X.env) :: starEach [] C.X.env := by rfl) (hsw : swapsWith (.Call (.Attribute (.Name z p) "append" apos) [e] [] cpos) none pos.line C.X.env = pure false := by rfl) :
    SndS C xc (.Expr (.Call (.Attribute (.Name z p) "append" apos) [e] [] cpos) pos) (sApp i t) := fun τ n D hp => by
  unfold sApp at hp
  split at hp
  · rename_i ds hi
    refine sx_append hz hi (h τ n _ ((pstS_E hp).imp fun x q => ?_)) hbase hfew hline hs hsw
    split at q
    · rename_i d
      split at q
      · rename_i hl; exact ⟨ds, d, hi, rfl, hl, q⟩
      · exact q.elim
    · exact q.elim
  · exact hp.elim
theorem sd_ins {apos p cpos : Pos} {i : Nat} {z : Str} (hz : Nm C.X i z) (h1 : Snd C xc a t) (h2 : Snd C xc e u)
    (hbase : attributeBase (.Name z p) "insert" C.X.env (eval (.Name z p) C.X.env) = eval (.Name z p) C.X.env := by rfl)
    (hfew : ((backTo cpos (starEach [a, e] C.X.env)).all (fun x => !x.1) && (backToKw cpos (keywordEach [] C.X.env)).all (fun x => x.1.isSome)
      && decide (([a, e] : List Expr).length + ([] : List Keyword).length + (if ([] : List Keyword).isEmpty then 0 else 1) < 30)) = true := by rfl)
    (hline : (apos.endLine == cpos.line) = true := by rfl) (hs : starEach [a, e] C.X.env = (false, eval a C.X.env) :: starEach [e] C.X.env := by rfl) (hs2 : starEach [e] C.X.env = (false, eval e C.X.env) :: starEach [] C.X.env := by rfl)
    (hpl : (backTo cpos (starEach [e] C.X.env)).any (·.1) = false := by rfl)
    (hsw : swapsWith (.Call (.Attribute (.Name z p) "insert" apos) [a, e] [] cpos) none pos.line C.X.env = pure false := by rfl) :
    SndS C xc (.Expr (.Call (.Attribute (.Name z p) "insert" apos) [a, e] [] cpos) pos) (sIns i t u) := fun τ n D hp => by
  unfold sIns at hp
  split at hp
  · rename_i ds hi
    refine sx_insert hz hi (h1 τ n _ ((pstS_E hp).imp fun x q => h2 τ n _ ((pstS_E q).imp fun y q => ?_))) hbase hfew hline hs hs2 hpl hsw
    split at q
    · split at q
      · rename_i hl; exact ⟨ds, _, _, hi, rfl, rfl, hl.1, hl.2.1, hl.2.2, q⟩
      · exact q.elim
    · exact q.elim
  · exact hp.elim
theorem sd_if {s1 s2 : List Stmt} {v1 v2 : EvS} (hc : SndT C xc c cc) (h1 : SndSs C xc s1 v1) (h2 : SndSs C xc s2 v2) : SndS C xc (.If c s1 s2 pos) (sIf cc v1 v2) := fun τ n D hp =>
  sx_if (hc τ n _ ((pstS_E hp).imp fun v q => ⟨fun e => h1 τ n D (by rw [if_pos e] at q; exact q), fun e => h2 τ n D (by rw [if_neg (by rw [e]; decide)] at q; exact q)⟩))
theorem sd_ret (h : Snd C xc e t) : SndS C xc (.Return (some e) pos) (sRet t) := fun τ n D hp => sx_ret (h τ n _ ((pstS_E hp).imp fun x q => q))
theorem sd_retN : SndS C xc (.Return none pos) sRetN := fun τ n D hp => sx_retN hp
theorem sd_expr (h : Snd C xc e t) (hs : swapsWith e none pos.line C.X.env = pure false) : SndS C xc (.Expr e pos) (sExpr t) := fun τ n D hp => sx_exprE (h τ n _ ((pstS_E hp).imp fun x q => q)) hs
theorem sd_bk : SndS C xc (.Break pos) sBk := fun τ n D hp => sx_break hp
theorem sd_ct : SndS C xc (.Continue pos) sCt := fun τ n D hp => sx_continue hp
theorem sd_pass : SndS C xc (.Pass pos) sNil := fun τ n D hp => sx_pass hp
theorem sd_raise {z m : Str} {j : Nat} {p p2 cpos : Pos} {l : List Str} (hc : C.X.calm = true) (tk : Takes C.X C.CW) (K : Xk C.X.K C.X.mg xc l) (hz : z ∈ l) (hno : z ∉ xOwn) (hg : Gl C.X z) (hd : (z == ("__debug__" : Str)) = false := by decide) :
    SndS C xc (.Raise (some (.Call (.Name z p) [.Constant (.str m) j p2] [] cpos)) none pos) (sRaise z) := fun τ n D hp => sx_raiseX hc tk K hz hno hg hp hd
theorem sd_aug {op : Operator} {f : Int → Int → Int} {i : Nat} {z : Str} {p : Pos} (hop : PIp C.X op (ipI f)) (nd : C.X.N.Nodup) (hz : Lm C.X i z) (h : Snd C xc e t) : SndS C xc (.AugAssign (.Name z p) op e pos) (sAug f i t) := fun τ n D hp => by
  unfold sAug at hp
  split at hp
  · rename_i j hi
    refine sx_augE hop nd hz hi (h τ n _ ((pstS_E hp).imp fun x q => ?_))
    split at q
    · exact ⟨_, rfl, q⟩
    · exact q.elim
  · exact hp.elim
theorem sd_asg2 {i j : Nat} {z w : Str} {p p2 : Pos} (nd : C.X.N.Nodup) (hz : Lm C.X i z) (hw : Lm C.X j w) (h : Snd C xc e t)
    (ha : (assignEach [.Name z p, .Name w p2] C.X.env).map (·.2) = [assign (.Name z p) C.X.env, assign (.Name w p2) C.X.env] := by rfl) (hs : swappedStores [.Name z p, .Name w p2] e C.X.env = pure none := by rfl) :
    SndS C xc (.Assign [.Name z p, .Name w p2] e pos) (sAsg2 i j t) := fun τ n D hp => sx_asg2 (ok := nd) hz hw (h τ n _ ((pstS_E hp).imp fun x q => q)) ha hs
/-! loops -/
theorem sd_for {tg iter : Expr} {body : List Stmt} {g : TgE} {it : EvD} {Ok : PyData → Prop} (hp : PassesOwn (model C.X.prog C.X.w) C.X.A C.X.env C.X.xe) (hc : C.X.calm = true) (ht : Tg C.X tg g.vs Ok g.set) (hok : ∀ d, g.ok d = true → Ok d) (hi : SndI C xc tg iter it) (hb : SndSs C xc body s)
    (hs : ∀ x, foldedSetIterable iter C.X.env x = pure x := by intro _; rfl) : SndS C xc (.For tg iter body [] pos) (sFor g it s) := fun τ n D hq => by
  refine sx_for hp hc ht (hi τ n _ ((pstS_E hq).imp fun ds q => ?_)) hs
  refine ⟨fun i τ2 n2 => n2 = n ∧ PstS C xc (forL g s (ds.drop i) τ2) n D, ⟨rfl, q⟩, ?_, ?_⟩
  · rintro i d τ2 n2 hd ⟨rfl, q⟩
    have hl := (List.getElem?_eq_some_iff.mp hd).1
    have ed : ds.drop i = d :: ds.drop (i + 1) := by
      rw [List.drop_eq_getElem_cons hl]
      obtain ⟨_, e⟩ := List.getElem?_eq_some_iff.mp hd
      rw [e]
    rw [ed] at q
    unfold forL at q
    split at q
    · rename_i hk
      refine ⟨hok d hk, hb _ _ _ ?_⟩
      revert q
      cases s (g.set d τ2) with
      | none => exact fun h => h
      | some r =>
        obtain ⟨o, τ'⟩ := r
        cases o with
        | nx => exact fun q => ⟨rfl, q⟩
        | rt x => exact fun h => h
        | bk => exact fun h => h
        | ct => exact fun q => ⟨rfl, q⟩
        | ex z => exact fun h => h
    · exact q.elim
  · rintro τ2 n2 ⟨rfl, q⟩
    rw [List.drop_length] at q
    exact q
theorem sd_while {body : List Stmt} {m : Nat} (hp : PassesOwn (model C.X.prog C.X.w) C.X.A C.X.env C.X.xe) (hc : SndT C xc c cc) (hb : SndSs C xc body s) : SndS C xc (.While c body [] pos) (sWhl m cc s) := fun τ n D hq => by
  refine sx_while hp (fun k τ' n' => n' = n ∧ PstS C xc (whlL cc s k τ') n D) m ⟨rfl, hq⟩ ?_
  rintro k τ' n' ⟨rfl, q⟩
  cases k with
  | zero => exact q.elim
  | succ k =>
    refine hc τ' _ _ ((pstS_E q).imp fun v q => ⟨fun ev => hb τ' _ _ ?_, fun ev => by rw [if_neg (by rw [ev]; decide)] at q; exact q⟩)
    rw [if_pos ev] at q
    revert q
    cases s τ' with
    | none => exact fun h => h
    | some r =>
      obtain ⟨o, τ2⟩ := r
      cases o with
      | nx => exact fun q => ⟨k, Nat.lt_succ_self k, rfl, q⟩
      | rt x => exact fun h => h
      | bk => exact fun h => h
      | ct => exact fun q => ⟨k, Nat.lt_succ_self k, rfl, q⟩
      | ex z => exact fun h => h
/-! targets -/
theorem is2_of {d : PyData} (h : is2 d = true) : ∃ d1 d2, d = .tuple [d1, d2] := by
  unfold is2 at h; split at h
  · exact ⟨_, _, rfl⟩
  · cases h
theorem is3_of {d : PyData} (h : is3 d = true) : ∃ d1 d2 d3, d = .tuple [d1, d2, d3] := by
  unfold is3 at h; split at h
  · exact ⟨_, _, _, rfl⟩
  · cases h
theorem noOw_of {τ : List Sl} {vs : List Nat} (h : noOwB τ vs = true) : ∀ j ∈ vs, ∀ es, τ[j]? ≠ some (.ow es) := fun j hj es e => by
  have := List.all_eq_true.mp h j hj
  simp only [e] at this
  cases this
/-! comprehensions -/
theorem asD_ok {r : Rs Av} {z : PyData} (h : (okO r).bind asD = some z) : okO r = some (.d z) := by
  obtain ⟨x, h1, h2⟩ := Option.bind_eq_some_iff.mp h
  rw [h1, asD_of h2]
theorem lcP_of {scope : Scope} {vs : List Nat} {ifs : List Expr} {elt : Expr} {Ok : PyData → Prop} {set : PyData → List Sl → List Sl} {ok : PyData → Bool} {Q : Av → List Sl → Nat → Prop} {ds acc : List PyData} (hok : ∀ d, ok d = true → Ok d)
    (hif : ∀ s H cE cl fp, ∀ τ n Q, Pst (C.blk s H scope cE cl fp) xc (cc τ) τ n (fun x => Q x τ n) → ETs (C.blk s H scope cE cl fp) τ n ifs Q) (helt : ∀ s H cE cl fp, Snd (C.blk s H scope cE cl fp) xc elt t)
    (hl : ds.length < sizeLine) (hno : noOwB τ vs = true) (he : lcL (fun d => set d (wipeS τ vs)) ok cc t ds = some acc) (q : Q (.d (.list acc)) τ n) : LcP C scope vs ifs elt Ok set Q ds τ n := by
  refine ⟨hl, noOw_of hno, fun i ac n2 => n2 = n ∧ ∃ rest, lcL (fun d => set d (wipeS τ vs)) ok cc t (ds.drop i) = some rest ∧ acc = ac ++ rest, ⟨rfl, acc, he, rfl⟩, ?_, ?_⟩
  · rintro s H cE cl fp i d ac n2 hd ⟨rfl, rest, hr, ea⟩
    have hl := (List.getElem?_eq_some_iff.mp hd).1
    have ed : ds.drop i = d :: ds.drop (i + 1) := by
      rw [List.drop_eq_getElem_cons hl]
      obtain ⟨_, e⟩ := List.getElem?_eq_some_iff.mp hd
      rw [e]
    rw [ed] at hr
    unfold lcL at hr
    split at hr
    · rename_i hk
      refine ⟨hok d hk, ?_⟩
      split at hr
      · rename_i hcc
        split at hr
        · rename_i z hz
          obtain ⟨r2, h2, rfl⟩ := Option.map_eq_some_iff.mp hr
          exact hif s H cE cl fp _ _ _ (pst_okO hcc ⟨fun _ s H cE cl fp => helt s H cE cl fp _ _ _ (pst_okO (asD_ok hz) ⟨rfl, z, rfl, rfl, r2, h2, by rw [ea]; simp⟩), fun e => Bool.noConfusion e⟩)
        · cases hr
      · rename_i hcc
        exact hif s H cE cl fp _ _ _ (pst_okO hcc ⟨fun e => Bool.noConfusion e, fun _ => ⟨rfl, rfl, rest, hr, ea⟩⟩)
      · cases hr
    · cases hr
  · rintro ac n2 ⟨rfl, rest, hr, ea⟩
    rw [List.drop_length] at hr
    cases hr
    rw [List.append_nil] at ea
    rw [← ea]; exact q
theorem ifs0 : ∀ τ n Q, Pst C xc (tYes τ) τ n (fun x => Q x τ n) → ETs C τ n [] Q := fun τ n Q h => h
theorem ifs1 (h : SndT C xc c cc) : ∀ τ n Q, Pst C xc (cc τ) τ n (fun x => Q x τ n) → ETs C τ n [c] Q := h
section
variable {tg iter elt : Expr} {ifs : List Expr} {scope : Scope} {own : List (Str × Nat)} {g : TgE} {it : EvD} {Ok : PyData → Prop}
theorem dLc_i {P : List PyData → Prop} (hi : SndI C xc tg iter it) {QI : List PyData → List Sl → Nat → Prop} (hp : Pst C xc (dLc g it cc t τ) τ n P)
    (k : ∀ ds acc, ds.length < sizeLine → noOwB τ g.vs = true → lcL (fun d => g.set d (wipeS τ g.vs)) g.ok cc t ds = some acc → P acc → QI ds τ n) : EI C τ n tg iter QI :=
  hi τ n _ ((pst_bnd hp).imp fun ds q => by
    split at q
    · rename_i hc
      obtain ⟨acc, e, q⟩ := pst_lif q
      exact k ds acc hc.1 hc.2 e q
    · exact q.elim)
theorem snd_lc (hc : C.X.calm = true) (hN : C.X.N.Nodup) (hl : ifs.length ≤ 1) (ho : own.map (·.2) = g.vs) (ok : BlkOk C.X.N C.X.env.scope scope own) (hset : SetOk g.vs g.set)
    (ht : ∀ (s : Shared) (H : Hp) (cE : Addr) (cl : List (Str × Addr)) (fp : List Addr), Tg (C.X.blk s H scope (compEnvC scope cl cE C.X.env) fp) tg g.vs Ok g.set) (hok : ∀ d, g.ok d = true → Ok d) (hi : SndI C xc tg iter it)
    (hif : ∀ s H cE cl fp, ∀ τ n Q, Pst (C.blk s H scope cE cl fp) xc (cc τ) τ n (fun x => Q x τ n) → ETs (C.blk s H scope cE cl fp) τ n ifs Q) (helt : ∀ s H cE cl fp, Snd (C.blk s H scope cE cl fp) xc elt t)
    (hs : ∀ x, foldedSetIterable iter C.X.env x = pure x := by intro _; rfl) : Snd C xc (.ListComp elt [⟨tg, iter, ifs, 0⟩] scope pos) (eLc g it cc t) := fun τ n Q hp =>
  ex_lc (own := own) (set := g.set) (Ok := Ok) hc hN hl ok (by rw [ho]; exact hset) (by rw [ho]; exact ht) (dLc_i (g := g) hi (pst_bnd hp) fun ds acc h1 h2 h3 q => by rw [ho]; exact lcP_of hok hif helt h1 h2 h3 q) hs
theorem sd_asgLc {i : Nat} {z : Str} {py spos : Pos} (hc : C.X.calm = true) (hN : C.X.N.Nodup) (hl : ifs.length ≤ 1) (hz : C.X.N[i]? = some z) (hzl : C.X.env.scope.names.lookup z = some .local) (hsw : swapsWith (.ListComp elt [⟨tg, iter, ifs, 0⟩] scope pos) (some (.Name z py)) spos.line C.X.env = pure true)
    (ho : own.map (·.2) = g.vs) (ok : BlkOk C.X.N C.X.env.scope scope own) (hset : SetOk g.vs g.set)
    (ht : ∀ (s : Shared) (H : Hp) (cE : Addr) (cl : List (Str × Addr)) (fp : List Addr), Tg (C.X.blk s H scope (compEnvC scope cl cE C.X.env) fp) tg g.vs Ok g.set) (hok : ∀ d, g.ok d = true → Ok d) (hi : SndI C xc tg iter it)
    (hif : ∀ s H cE cl fp, ∀ τ n Q, Pst (C.blk s H scope cE cl fp) xc (cc τ) τ n (fun x => Q x τ n) → ETs (C.blk s H scope cE cl fp) τ n ifs Q) (helt : ∀ s H cE cl fp, Snd (C.blk s H scope cE cl fp) xc elt t)
    (hs : ∀ x, foldedSetIterable iter C.X.env x = pure x := by intro _; rfl) : SndS C xc (.Assign [.Name z py] (.ListComp elt [⟨tg, iter, ifs, 0⟩] scope pos) spos) (sAsg i (eLc g it cc t)) := fun τ n D hp =>
  sx_asgLc (own := own) (set := g.set) (Ok := Ok) hc hN hl hz hzl hsw ok (by rw [ho]; exact hset) (by rw [ho]; exact ht) (dLc_i (g := g) hi (pst_bnd (pstS_E hp)) fun ds acc h1 h2 h3 q => by rw [ho]; exact lcP_of hok hif helt h1 h2 h3 q) hs
theorem dcL_get {env : PyData → List Sl} {ok : PyData → Bool} : ∀ {ds : List PyData} {kvs : List (Int × Int)}, dcL env ok t u ds = some kvs → kvs.length = ds.length ∧ ∀ (i : Nat) d (p : Int × Int), ds[i]? = some d → kvs[i]? = some p → ok d = true ∧ okO (t (env d)) = some (aI p.1) ∧ okO (u (env d)) = some (aI p.2)
  | [], kvs, h => by cases h; exact ⟨rfl, fun i d p h => by simp at h⟩
  | d :: r, kvs, h => by
    unfold dcL at h
    split at h
    · rename_i hk
      split at h
      · rename_i k v h1 h2
        obtain ⟨m, h3, rfl⟩ := Option.map_eq_some_iff.mp h
        obtain ⟨l1, l2⟩ := dcL_get h3
        obtain ⟨x1, a1, a2⟩ := Option.bind_eq_some_iff.mp h1
        obtain ⟨x2, b1, b2⟩ := Option.bind_eq_some_iff.mp h2
        rw [asI_of a2] at a1
        rw [asI_of b2] at b1
        refine ⟨by simp [l1], fun i d' p e1 e2 => ?_⟩
        cases i with
        | zero => simp at e1 e2; subst e1 e2; exact ⟨hk, a1, b1⟩
        | succ i => exact l2 i d' p (by simpa using e1) (by simpa using e2)
      · cases h
    · cases h
theorem snd_dc {kx vx : Expr} (hc : C.X.calm = true) (hN : C.X.N.Nodup) (ho : own.map (·.2) = g.vs) (ok : BlkOk C.X.N C.X.env.scope scope own) (hset : SetOk g.vs g.set)
    (ht : ∀ (s : Shared) (H : Hp) (cE : Addr) (cl : List (Str × Addr)) (fp : List Addr), Tg (C.X.blk s H scope (compEnvC scope cl cE C.X.env) fp) tg g.vs Ok g.set) (hok : ∀ d, g.ok d = true → Ok d) (hi : SndI C xc tg iter it)
    (hk : ∀ s H cE cl fp, Snd (C.blk s H scope cE cl fp) xc kx t) (hv : ∀ s H cE cl fp, Snd (C.blk s H scope cE cl fp) xc vx u)
    (hs : ∀ x, foldedSetIterable iter C.X.env x = pure x := by intro _; rfl) : Snd C xc (.DictComp kx vx [⟨tg, iter, [], 0⟩] scope pos) (eDc g it t u) := fun τ n Q hp =>
  ex_dc (own := own) (set := g.set) (Ok := Ok) hc hN ok (by rw [ho]; exact hset) (by rw [ho]; exact ht) (hi τ n _ ((pst_bnd hp).imp fun ds q => by
    split at q
    · rename_i hcc
      split at q
      · rename_i kvs hd
        split at q
        · rename_i hnd
          obtain ⟨l1, l2⟩ := dcL_get hd
          refine ⟨hcc.1, by rw [ho]; exact noOw_of hcc.2, kvs, l1, hnd, fun i d p e1 e2 => ?_, q⟩
          obtain ⟨k1, k2, k3⟩ := l2 i d p e1 e2
          refine ⟨hok d k1, fun s H cE cl fp => ?_⟩
          rw [ho]
          exact hk s H cE cl fp _ _ _ (pst_okO k2 ⟨rfl, rfl, rfl, fun s H cE cl fp => hv s H cE cl fp _ _ _ (pst_okO k3 ⟨rfl, rfl, rfl⟩)⟩)
        · exact q.elim
      · exact q.elim
    · exact q.elim)) hs
end
/-! generators under all(..), any(..) -/
theorem gB_ok {env : PyData → List Sl} {d : PyData} (h : (gB env t d).isSome = true) : okO (t (env d)) = some (aB ((gB env t d).getD false)) := by
  obtain ⟨b, hb⟩ := Option.isSome_iff_exists.mp h
  rw [hb]
  obtain ⟨x, h1, h2⟩ := Option.bind_eq_some_iff.mp hb
  rw [h1, asB_of h2]; rfl
theorem snd_all {cd P : Addr} {x : Str} {j k : Nat} {px p gpos : Pos} {scope : Scope} {elt iter : Expr} {it : EvD} (hr : Room (k + 4) C.X.A) (hz : Bl C.X "all") (TB : GxR.TabB C.X.base C.X.mg cd P) (hPT : P ∈ C.W.T) (hcode : C.X.env.code = .ref cd) (hc : C.X.calm = true) (hN : C.X.N.Nodup)
    (ok : BlkOk C.X.N C.X.env.scope scope [(x, j)]) (S : GSc scope x) (hi : SndI C xc (.Name x px) iter it) (he : ∀ s H cE cl code fp pn Aw, Room k Aw → Snd (C.gen s H scope cE cl code fp pn Aw) xc elt t)
    (hs : ∀ v, genFold iter C.X.env v = pure v := by intro _; rfl)
    (hst : starEach [.GeneratorExp elt [⟨.Name x px, iter, [], 0⟩] scope gpos] C.X.env = (false, eval (.GeneratorExp elt [⟨.Name x px, iter, [], 0⟩] scope gpos) C.X.env) :: starEach [] C.X.env := by rfl) :
    Snd C xc (.Call (.Name "all" p) [.GeneratorExp elt [⟨.Name x px, iter, [], 0⟩] scope gpos] [] pos) (eAll j it t) := fun τ n Q hp =>
  ex_all hr hz TB hPT hcode hc hN ok S (hi τ n _ ((pst_bnd hp).imp fun ds q => by
    split at q
    · rename_i hcc
      refine ⟨noOw_of hcc.1 j (by simp), _, fun d hd s H cE cl code fp pn Aw hrw => ?_, q⟩
      exact he s H cE cl code fp pn Aw hrw _ _ _ (pst_okO (gB_ok (List.all_eq_true.mp hcc.2 d hd)) ⟨rfl, rfl, rfl⟩)
    · exact q.elim)) hs hst
theorem snd_any {cd P : Addr} {x : Str} {j k : Nat} {px p gpos : Pos} {scope : Scope} {elt iter : Expr} {it : EvD} (hr : Room (k + 4) C.X.A) (hz : Bl C.X "any") (TB : GxR.TabB C.X.base C.X.mg cd P) (hPT : P ∈ C.W.T) (hcode : C.X.env.code = .ref cd) (hc : C.X.calm = true) (hN : C.X.N.Nodup)
    (ok : BlkOk C.X.N C.X.env.scope scope [(x, j)]) (S : GSc scope x) (hi : SndI C xc (.Name x px) iter it) (he : ∀ s H cE cl code fp pn Aw, Room k Aw → Snd (C.gen s H scope cE cl code fp pn Aw) xc elt t)
    (hs : ∀ v, genFold iter C.X.env v = pure v := by intro _; rfl)
    (hst : starEach [.GeneratorExp elt [⟨.Name x px, iter, [], 0⟩] scope gpos] C.X.env = (false, eval (.GeneratorExp elt [⟨.Name x px, iter, [], 0⟩] scope gpos) C.X.env) :: starEach [] C.X.env := by rfl) :
    Snd C xc (.Call (.Name "any" p) [.GeneratorExp elt [⟨.Name x px, iter, [], 0⟩] scope gpos] [] pos) (eAny j it t) := fun τ n Q hp =>
  ex_anyG hr hz TB hPT hcode hc hN ok S (hi τ n _ ((pst_bnd hp).imp fun ds q => by
    split at q
    · rename_i hcc
      refine ⟨noOw_of hcc.1 j (by simp), _, fun d hd s H cE cl code fp pn Aw hrw => ?_, q⟩
      exact he s H cE cl code fp pn Aw hrw _ _ _ (pst_okO (gB_ok (List.all_eq_true.mp hcc.2 d hd)) ⟨rfl, rfl, rfl⟩)
    · exact q.elim)) hs hst
end
/-! a def -/
section
variable {P : Program} {w : World} {K : PySem.W.Frag} {mg : Str → Option Value} {base : Heap} {W : Wo} {xc : Str → Addr}
theorem fd_T {x qual : Str} {ar : Arguments} {body : List Stmt} {sc : Scope} {f : Addr} {fd : FuncData} {N ps : List Str} {k m a : Nat} {s : EvS} (F : FunD K x qual ar body sc [] [] f fd) (S : FnScope N ps sc) (ha : ps.length = a) (hm : N.length = a + m)
    (hb : ∀ cd A outer sh H E G RE, Bd (cnOf P w K mg base N qual sc f cd A outer sh H E W G RE) k → fd.code = cd → SndSs (cnOf P w K mg base N qual sc f cd A outer sh H E W G RE) xc body s) :
    FnOk P w K mg base (CX P w) (k + 1) f fd ps (spOf { W with K := K } (aspT xc (runF a m s))) := by
  refine fd_asp (N := N) F S (fun xs n R RE h => ?_) fun cd A outer sh H E G xs n R RE h B hcd => ?_
  · unfold aspT runF at h
    split at h
    · rename_i e; split at e
      · rename_i hl; rw [hl, ha]
      · cases e
    · rename_i e; split at e
      · rename_i hl; rw [hl, ha]
      · cases e
    · exact h.elim
  · refine hb cd A outer sh H E G RE B hcd _ _ _ ?_
    unfold aspT runF at h
    by_cases hl : xs.length = a
    · rw [if_pos hl] at h
      have e : startS N xs = xs.map Sl.st ++ List.replicate m .no := by
        unfold startS
        rw [hl, hm, Nat.add_sub_cancel_left]
      rw [e]
      revert h
      cases s (xs.map Sl.st ++ List.replicate m .no) with
      | none => exact fun h => h
      | some r =>
        obtain ⟨o, τ'⟩ := r
        cases o with
        | nx => exact fun h => h
        | rt x => exact fun h => h
        | bk => exact fun h => h
        | ct => exact fun h => h
        | ex z => exact fun h => h
    · rw [if_neg hl] at h; exact h.elim
end
end M

set_option Elab.async false
set_option linter.all false
set_option maxRecDepth 100000
set_option maxHeartbeats 4000000
namespace M
open PySem PySem.Spec PyProof.Rows L2
/-! ### generator expressions: any target, one test at most, scalars yielded -/
structure GSd (scope : Scope) : Prop where
  kind : scope.kind = .function
  co : scope.isCoroutine = false
  cell : ∀ y ∈ scope.names, y.2 ≠ .cell
  dot : scope.names.lookup (".0" : Str) = some NameKind.local
theorem gen_startT {X : Cx} {pins : List (Addr × Obj)} {σ : L2.St} {H : Hp} {s : Shared} {scope : Scope} {own : List (Str × Nat)} {fp : List Addr} {code : Value} {h' : Heap} {go : Obj} {g' : Array GenState} {t' : Nat} {Aw : Around} {m : Str → Option Value}
    (I : Inv X pins σ H s) (ok : BlkOk X.N X.env.scope scope own) (hN : X.N.Nodup) (S : GSd scope) (hfp : ∀ b ∈ fp, FpOk X pins H b ∧ b < s.heap.objs.size) (hh : Aw.handled = none)
    (hf : Aw.frames = some (genEnv scope (cloFrom X.env.cells scope.names []) s.heap.objs.size code builtinsNs X.env :: X.stack))
    (hn : h'.Ns s.heap.objs.size m) (kp0 : ∀ b o, s.heap.get? b = some o → h'.get? b = some o) (hsz : h'.objs.size = s.heap.objs.size + 1) (hg : AllBare g') (hd : ∀ v, go.data ≠ .cell v) (hgo : (h'.push go).get? h'.objs.size = some go) :
    Inv (gX X s H (genEnv scope (cloFrom X.env.cells scope.names []) s.heap.objs.size code builtinsNs X.env) fp [(h'.objs.size, go)] Aw) [] (wipe σ (own.map (·.2))) H { s with heap := h'.push go, gens := g', toks := t' } := by
  have hfree : ∀ y ∈ scope.names, y.2 = .free → ∃ c, X.env.cells.lookup y.1 = some c := fun y hy e => by
    rcases ok.free y hy e with k | k
    · exact I.ok.has _ (.inl k)
    · exact I.ok.has _ (.inr k)
  have kp : ∀ b o, s.heap.get? b = some o → (h'.push go).get? b = some o := fun b o e => Heap.get?_push_of_some _ (kp0 b o e)
  generalize hcl : cloFrom X.env.cells scope.names [] = cl
  have cm : ∀ {y c}, (y, c) ∈ cl → (y, NameKind.free) ∈ scope.names ∧ X.env.cells.lookup y = some c ∧ c < s.heap.objs.size := fun {y c} hm => by
    rw [← hcl] at hm
    rcases cloFrom_mem hm with hm | ⟨h1, rfl⟩
    · cases hm
    · obtain ⟨c, hc⟩ := hfree _ h1 rfl
      rw [hc]
      obtain ⟨w, z⟩ := I.cell _ _ hc
      exact ⟨h1, rfl, z.lt⟩
  have mem : ∀ {y c}, cl.lookup y = some c → X.env.cells.lookup y = some c ∧ c < s.heap.objs.size := fun {y c} e => (cm (PySem.mem_of_lookup e)).2
  have look : ∀ {y}, (y, NameKind.free) ∈ scope.names → ∃ c, cl.lookup y = some c ∧ X.env.cells.lookup y = some c := fun {y} hy => by
    have hm : (y, (X.env.cells.lookup y).getD 0) ∈ cl := by rw [← hcl]; exact cloFrom_has hy
    obtain ⟨c', e'⟩ := mem_lookup hm
    exact ⟨c', e', (mem e').1⟩
  have hLt : X.env.locals < s.heap.objs.size := I.lt
  have nstk : ∀ b, s.heap.objs.size ≤ b → b ∉ frs X.stack := fun b hb z => by
    rcases List.mem_cons.mp (I.stkSub b z) with z | z
    · rw [z] at hb; exact absurd (Nat.lt_of_lt_of_le hLt hb) (Nat.lt_irrefl _)
    · exact I.nofs hb z
  have okB : (gX X s H (genEnv scope cl s.heap.objs.size code builtinsNs X.env) fp [(h'.objs.size, go)] Aw).Ok := by
    refine ⟨I.ok.mod, S.kind, I.ok.glob, rfl, Nat.le_refl _, fun y z c e1 e2 => ?_, fun y hy => ?_, fun y c z _ => absurd z (by show ¬ (false = true); decide), fun _ => hh, by rw [← hcl]; exact hf, .inr ⟨rfl, rfl⟩, fun b hb => ⟨?_, fun y c e z => ?_⟩, I.bs, Nat.le_trans I.ok.bsz I.sz, fun b o e hb => ?_, fun b hb z => ?_, I.stack, I.stkFree⟩
    · exact I.ok.inj y z c (mem e1).1 (mem e2).1
    · have hy : scope.names.lookup y = some .cell ∨ scope.names.lookup y = some .free := hy
      rcases hy with hy | hy
      · exact absurd rfl (S.cell _ (PySem.mem_of_lookup hy))
      · obtain ⟨c, h1, _⟩ := look (PySem.mem_of_lookup hy)
        exact ⟨c, h1⟩
    · show b ≠ s.heap.objs.size
      exact Nat.ne_of_lt (hfp b hb).2
    · exact (hfp b hb).1.2.2.2.2.1 y c (mem e).1 z
    · rcases (hfp b hb).1.2.2.2.1 with z | z
      · exact I.ok.noex b o e z
      · exact absurd (Nat.lt_of_lt_of_le (Heap.lt_size e) (Nat.le_trans I.ok.bsz z)) (Nat.lt_irrefl _)
    · rcases List.mem_cons.mp (I.stkSub b z) with z | z
      · exact (hfp b hb).1.2.1 z
      · exact (hfp b hb).1.2.2.1 z
  refine ⟨okB, rfl, hg, Un.kept kp, ⟨m, hn.push go, fun i y av e1 e2 e3 => ?_⟩, fun y c e => ?_, I.hok.fresh (Nat.le_refl _), fun y c e => I.freeC y c (mem e).1, fun p hp => ?_, I.hok.kept kp, by rw [wipe_length]; exact I.len⟩
  · obtain ⟨e2, hne⟩ := wipe_some e2
    have e3 : scope.names.lookup y = some .local ∨ scope.names.lookup y = some .cell ∨ scope.names.lookup y = some .free := e3
    have hfr : scope.names.lookup y = some .free := by
      have no : ∀ kd, (y, kd) ∈ scope.names → ¬ (kd = .local ∨ kd = .cell) := fun kd hy hk => by
        rcases ok.own _ hy hk with e' | e'
        · obtain ⟨p, hp, hpy⟩ := List.mem_map.mp e'
          have e4 := ok.ix p hp
          have hpy : p.1 = y := hpy
          rw [hpy] at e4
          exact hne (List.mem_map.mpr ⟨p, hp, nodup_ix hN e4 e1⟩)
        · exact e' (List.mem_of_getElem? e1)
      rcases e3 with e3 | e3 | e3
      · exact absurd (.inl rfl) (no _ (PySem.mem_of_lookup e3))
      · exact absurd (.inr rfl) (no _ (PySem.mem_of_lookup e3))
      · exact e3
    obtain ⟨m, hn, hl⟩ := I.loc
    have hvis : Vis X.env.scope y := (ok.free _ (PySem.mem_of_lookup hfr) rfl).elim (fun k => .inr (.inl k)) (fun k => .inr (.inr k))
    obtain ⟨w, r, q⟩ := hl i y av e1 e2 hvis
    obtain ⟨c, h1, h2⟩ := look (PySem.mem_of_lookup hfr)
    refine ⟨w, r, .inr ⟨.inr hfr, ?_⟩⟩
    rcases q with ⟨k, _⟩ | ⟨_, c', e', z⟩
    · have k : X.env.scope.names.lookup y = some .local := k
      rcases ok.free _ (PySem.mem_of_lookup hfr) rfl with k' | k' <;> rw [show X.env.scope.names.lookup y = _ from k'] at k <;> cases k
    · rw [h2] at e'; cases e'
      exact ⟨c, h1, z.keeps kp⟩
  · obtain ⟨w, z⟩ := I.cell y c (mem e).1
    exact ⟨w, z.keeps kp⟩
  · have hp : p = (h'.objs.size, go) := by simpa using hp
    subst hp
    have hb : s.heap.objs.size ≤ h'.objs.size := by rw [hsz]; exact Nat.le_succ _
    refine ⟨hgo, I.hok.fresh hb, ?_, nstk _ hb, hd⟩
    show h'.objs.size ≠ s.heap.objs.size
    rw [hsz]; exact Nat.succ_ne_self _

section
variable {X : Cx} {pins : List (Addr × Obj)} {σ : L2.St} {H : Hp} {s : Shared}
/-- the generator is made -/
theorem gen_mkT {c P : Addr} {elt iter : Expr} {tg : Expr} {ifs : List Expr} {gpos : Pos} {scope : Scope} {own : List (Str × Nat)} {ti : TI} {k : Nat} {Q' : Value → Shared → Prop} {RR : It → Hp → Prop}
    (hr : Room k X.A) (TB : GxR.TabB X.base X.mg c P) (hcode : X.env.code = .ref c) (hN : X.N.Nodup) (ok : BlkOk X.N X.env.scope scope own) (S : GSd scope) (hi : PI X tg iter ti) (hs : ∀ v, genFold iter X.env v = pure v) (I : Inv X pins σ H s)
    (h : ti σ H fun J H1 => GxR.TabG H1 P ∧ RR J H1)
    (hQ : ∀ (J : It) (H1 H2 : Hp) (s4 s5 : Shared) (it : Addr) (fp : List Addr) (tn : Nat → Heap → Prop) (code : Value) (a : Addr) (g : Nat) (go : Obj), RR J H1 → GxR.Tabbed P H1 H2 → Inv X pins σ H2 s4 → Turn X.prog X.w X.K tg J fp it tn →
      (∀ b ∈ fp, FpOk X pins H2 b ∧ b ≠ a) → tn 0 s5.heap → s5.os = s4.os → AllBare s5.gens →
      s5.gens[g]? = some (.fresh (.compStart (.GeneratorExp elt [⟨tg, iter, ifs, 0⟩] scope gpos) 0 (.ref it) .none (genEnv scope (cloFrom X.env.cells scope.names []) s4.heap.objs.size code builtinsNs X.env))) →
      (∀ h : Heap, h.get? a = some go → h.IsGen a g) →
      (∀ Aw : Around, Aw.handled = none → Aw.frames = some (genEnv scope (cloFrom X.env.cells scope.names []) s4.heap.objs.size code builtinsNs X.env :: X.stack) →
        Inv (gX X s4 H2 (genEnv scope (cloFrom X.env.cells scope.names []) s4.heap.objs.size code builtinsNs X.env) fp [(a, go)] Aw) [] (wipe σ (own.map (·.2))) H2 s5) → Q' (.ref a) s5) :
    wpAny (model X.prog X.w) X.A (eval (.GeneratorExp elt [⟨tg, iter, ifs, 0⟩] scope gpos) X.env) Q' X.xe s := by
  have hfree : ∀ y ∈ scope.names, y.2 = .free → ∃ c, X.env.cells.lookup y.1 = some c := fun y hy e => by
    rcases ok.free y hy e with k | k
    · exact I.ok.has _ (.inl k)
    · exact I.ok.has _ (.inr k)
  refine wpAny_GeneratorExp_make S.co (closure_ok hfree) S.cell S.dot S.kind (by have := hr.dp; omega) ?_ hs
  refine thn (hi.run pins s σ H _ I h) fun xv s1 h1 => thn h1 fun itv s2 h2 => ?_
  obtain ⟨it, fp, tn, J, H1, rfl, I1, T, st, ffp, ⟨ps, hP, ht⟩, rr⟩ := h2
  refine ⟨I1.nolimit, ?_⟩
  have hPs : s2.heap.get? P = some { cls := .none, data := .fields ps } := I1.hok P _ hP
  have cd : PySem.W.CodeHd s2.heap c P := TB.code.keeps fun b u e => I1.bk b u e
  have fpP : ∀ b ∈ fp, b ≠ P := fun b hb z => by
    have := (ffp b hb).1
    rw [z, hP] at this; cases this
  have cont : ∀ (code : Value) (h3 : Heap) (tk : Nat) (ps' : Array Value), Heap.ExtBut P s2.heap h3 → h3.get? P = some { cls := .none, data := .fields ps' } → (∃ more, ps' = ps ++ more) → TriplesOk ps'.toList →
      wpAny (model X.prog X.w) X.A (builtinsFor X.env.globals X.env.builtins) (fun bi s₄ => ∀ h', h'.Ns s₄.heap.objs.size (fun y => if y = ".0" then some (Value.ref it) else none) → Heap.SameBut s₄.heap.objs.size (s₄.heap.push { cls := .type "frame", data := .dict #[] }) h' →
          Q' (.ref h'.objs.size) { s₄ with
            gens := s₄.gens.push (.fresh (.compStart (.GeneratorExp elt [⟨tg, iter, ifs, 0⟩] scope gpos) 0 (.ref it) .none (genEnv scope (cloFrom X.env.cells scope.names []) s₄.heap.objs.size code bi X.env))),
            toks := s₄.toks + 1 + 1 + 1,
            heap := h'.push { cls := .type "generator", data := .fields #[.int s₄.gens.size 0, .str "<genexpr>" (s₄.toks + 1), .str (X.env.qual ++ "<genexpr>") (s₄.toks + 1 + 1)] } }) X.xe { s2 with heap := h3, toks := tk } := by
    intro code h3 tk ps' hx hP3 hmore ht3
    obtain ⟨bm, ob, e1, e2, e3, e4, e5, e6, e7, e8⟩ := TB.bm
    refine wpAny_builtinsFor (m := X.mg) (by rw [I1.ok.glob]; exact (I1.mod.glob.keeps I1.bk).extBut hx TB.gP) e1 e2 (hx _ _ e4 (I1.bk _ _ e5)) e6 e7 e8 ?_
    intro h' hn' hs'
    obtain ⟨more, rfl⟩ := hmore
    have I4 : Inv X pins σ (upd H1 P (.tbl (ps ++ more))) { s2 with heap := h3, toks := tk } := GxR.inv_tab (g' := s2.gens) (d' := s2.drawn) I1 hP (fun b o hb e => hx b o hb e) hP3 I1.bare
    have ffp4 : ∀ b ∈ fp, FpOk X pins (upd H1 P (.tbl (ps ++ more))) b := fun b hb => ⟨by rw [upd_ne (fpP b hb)]; exact (ffp b hb).1, (ffp b hb).2⟩
    have kp1 : ∀ b ∈ fp, ∀ o, s2.heap.get? b = some o → h3.get? b = some o := fun b hb o e => hx b o (fpP b hb) e
    have hsz : h'.objs.size = h3.objs.size + 1 := by rw [hs'.1, Heap.size_push]
    have kp0 : ∀ b o, h3.get? b = some o → h'.get? b = some o := fun b o e => hs'.extBut b o (Nat.ne_of_lt (Heap.lt_size e)) (Heap.get?_push_of_some _ e)
    have hpush : ∀ go : Obj, (∀ v, go.data ≠ .cell v) → (h'.push go).get? h'.objs.size = some go → go.cls = .type "generator" → (∃ nm qn, go.data = .fields #[.int s2.gens.size 0, nm, qn]) → go.slots = #[] →
        ∀ gc : GenState, gc = .fresh (.compStart (.GeneratorExp elt [⟨tg, iter, ifs, 0⟩] scope gpos) 0 (.ref it) .none (genEnv scope (cloFrom X.env.cells scope.names []) h3.objs.size code builtinsNs X.env)) → ∀ tk5,
        Q' (.ref h'.objs.size) { s2 with heap := h'.push go, gens := s2.gens.push gc, toks := tk5 } := by
      intro go hd hgo hc ⟨nm, qn, hdt⟩ hsl gc egc tk5
      have hb5 : AllBare (s2.gens.push gc) := I1.bare.push (by rw [egc]; rfl)
      refine hQ J H1 _ { s2 with heap := h3, toks := tk } _ it fp tn code _ s2.gens.size go rr ⟨⟨_, upd_same, ht3⟩, fun b hb => upd_ne hb⟩ I4 T (fun b hb => ⟨ffp4 b hb, ?_⟩) ?_ rfl hb5 ?_ (fun h e => ⟨go, nm, qn, e, hc, hdt, hsl⟩) fun Aw hh hf => ?_
      · obtain ⟨o, e, _⟩ := T.obj _ _ st b hb
        have h1 := Heap.lt_size (kp1 b hb o e)
        have h2 : b < h'.objs.size := by rw [hsz]; exact Nat.lt_succ_of_lt h1
        exact Nat.ne_of_lt h2
      · exact T.keep _ _ _ st fun b hb o e => Heap.get?_push_of_some _ (kp0 b o (kp1 b hb o e))
      · rw [← egc]; exact Array.getElem?_push_size ..
      · refine gen_startT (s := { s2 with heap := h3, toks := tk }) I4 ok hN S (fun b hb => ⟨ffp4 b hb, ?_⟩) hh hf hn' kp0 hsz hb5 hd hgo
        obtain ⟨o, e, _⟩ := T.obj _ _ st b hb
        exact Heap.lt_size (kp1 b hb o e)
    exact hpush _ (fun v q => by cases q) (Heap.get?_push_size _ rfl) rfl ⟨_, _, rfl⟩ rfl _ rfl _
  cases hf : codeAmong gpos ps.toList with
  | none =>
    refine wpAny_genexprCodeX hcode (cd.code hPs ht) (cd.tab hPs) hf fun c' h' tk hx hge hlt hco' _ htab' _ => ?_
    obtain ⟨o1, vs, f1, tf, fl, tg, inF, tx, tt, op, _, _, _, _, _, _, _, _, _, htr, _⟩ := hco'
    exact cont _ h' tk _ hx htab'.2 ⟨_, rfl⟩ htr
  | some cv =>
    refine wpAny_genexprCode_hit hcode (cd.code hPs ht) hf ?_
    exact cont cv s2.heap s2.toks ps (Heap.ExtBut.refl _ _) hPs ⟨#[], by simp⟩ ht

end

/-! the feeder: what a generator gives, one by one; S an object of the consumer's own -/
structure Fd (P : Program) (w : World) (A : Around) (I : Addr) (bs : List V) (St : Option Addr → Nat → Shared → Prop) (GF : Option Addr → Shared → Prop) : Prop where
  item : ∀ (S : Option Addr) (j : Nat) (s : Shared) (b : V) (Q : Option Value → Shared → Prop) (E : Value → Shared → Prop), bs[j]? = some b → St S j s → (∀ v s', RelV b v → St S (j + 1) s' → (∀ c, S = some c → s'.heap.get? c = s.heap.get? c) → Q (some v) s') → wpAny (model P w) A (pyNext (.ref I)) Q E s
  done : ∀ (S : Option Addr) (s : Shared) (Q : Option Value → Shared → Prop) (E : Value → Shared → Prop), St S bs.length s → (∀ s', GF S s' → (∀ c, S = some c → s'.heap.get? c = s.heap.get? c) → Q none s') → wpAny (model P w) A (pyNext (.ref I)) Q E s
  upd : ∀ (c : Addr) (j : Nat) (s : Shared) (o : Obj) (h' : Heap) (tk : Nat), St (some c) j s → (∀ b u, b ≠ c → s.heap.get? b = some u → h'.get? b = some u) → h'.get? c = some o → (∀ v, o.data ≠ .cell v) → St (some c) j { s with heap := h', toks := tk }
  updF : ∀ (c : Addr) (s : Shared) (o : Obj) (h' : Heap) (tk : Nat), GF (some c) s → (∀ b u, b ≠ c → s.heap.get? b = some u → h'.get? b = some u) → h'.get? c = some o → (∀ v, o.data ≠ .cell v) → GF (some c) { s with heap := h', toks := tk }
  new : ∀ (s : Shared) (o : Obj) (tk : Nat), St none 0 s → (∀ v, o.data ≠ .cell v) → o.isFreed = false → St (some s.heap.objs.size) 0 { s with heap := s.heap.push o, toks := tk }
  quit : ∀ (S : Option Addr) (j : Nat) (s : Shared), St S j s → GF S s
section
variable {prog : Program} {w : World} {A : Around} {R : Result → Shared → Prop} {E : Value → Shared → Prop} {s : Shared} {I : Addr} {bs : List V} {St : Option Addr → Nat → Shared → Prop} {GF : Option Addr → Shared → Prop}
theorem sum_loopF (W : Fd prog w A.in1 I bs St GF) {ns : List Int} (hb : bs = ns.map V.int) (S : Addr) :
    ∀ (k i : Nat) (s : Shared) (tA : Tok) (c : Nat) (st : Int), (st = 0 ∨ st = 2) → ns.length - i = k → i ≤ ns.length → St (some S) i s → s.heap.get? S = some { cls := .type "list", dict := none, data := .seq #[.int ((ns.take i).sum) tA] c, slots := #[] } →
    (∀ s' t', GF (some S) s' → R (.ok (.ret (.int ns.sum t'))) s') → codeAny (model prog w) A (.builtin "sum.loop" ⟨[.ref I, .ref S, rawInt st, rawInt 0], []⟩) R s := by
  intro k
  induction k with
  | zero =>
    intro i s tA c st hst2 hk hi hst hS hR
    have hin : i = ns.length := by omega
    subst hin
    refine codeAny_builtin F.entry_sum_loop ?_
    rw [Around.under_plainId F.plain_sum_loop _]
    show wpAny _ A.in1 (seqItems? (.ref S) >>= _) _ _ s
    refine wpAny_bind (wpAny_seqItems hS rfl ?_)
    show wpAny _ A.in1 (tryCatch (pyNext (.ref I)) _ >>= _) _ _ s
    refine wpAny_bind (wpAny_tryCatch (W.done (some S) s _ _ (by rw [hb, List.length_map]; exact hst) fun s' hm _ => ?_))
    refine wpAny_pure ?_
    rw [List.take_length]
    exact hR s' tA hm
  | succ k ih =>
    intro i s tA c st hst2 hk hi hst hS hR
    have hlt : i < ns.length := by omega
    have hbi : bs[i]? = some (V.int ns[i]) := by rw [hb, List.getElem?_map, List.getElem?_eq_getElem hlt]; rfl
    have hsum : (ns.take (i + 1)).sum = (ns.take i).sum + ns[i] := by
      rw [List.take_succ, List.getElem?_eq_getElem hlt, List.sum_append]; simp
    refine codeAny_builtin F.entry_sum_loop ?_
    rw [Around.under_plainId F.plain_sum_loop _]
    show wpAny _ A.in1 (seqItems? (.ref S) >>= _) _ _ s
    refine wpAny_bind (wpAny_seqItems hS rfl ?_)
    show wpAny _ A.in1 (tryCatch (pyNext (.ref I)) _ >>= _) _ _ s
    refine wpAny_bind (wpAny_tryCatch (W.item (some S) i s _ _ _ hbi hst fun v s' hP hst' hm => ?_))
    obtain ⟨t, rfl⟩ := hP
    have hS' := (hm S rfl).trans hS
    have ih' : ∀ (s : Shared) (tA : Tok) (c : Nat) (st : Int), (st = 0 ∨ st = 2) → St (some S) (i + 1) s → s.heap.get? S = some { cls := .type "list", dict := none, data := .seq #[.int ((ns.take i).sum + ns[i]) tA] c, slots := #[] } →
        codeAny (model prog w) A (.builtin "sum.loop" ⟨[.ref I, .ref S, rawInt st, rawInt 0], []⟩) R s := fun s tA c st h0 h1 h2 => ih (i + 1) s tA c st h0 (by omega) hlt h1 (by rw [hsum]; exact h2) hR
    clear ih hR
    generalize (ns.take i).sum = tot at *
    generalize ns[i] = vi at *
    rcases hst2 with rfl | rfl
    · show wpAny _ A.in1 (if (_ : Bool) = true then (mkInt (tot + vi) >>= _) else _) _ _ _
      split
      · refine wpAny_bind (wpAny_mkInt ?_)
        show wpAny _ A.in1 (updateSeq S (fun _ => #[.int (tot + vi) s'.toks]) >>= _) _ _ _
        refine wpAny_bind ?_
        refine wpAny_updateSeq hS' rfl (wpAny_pure ⟨plainId_quiet F.plain_sum_loop _, ih' _ s'.toks _ 0 (.inl rfl) (W.upd S (i + 1) s' _ _ _ hst' (fun b u hb e => (Heap.get?_update_other _ _ (Ne.symm hb)).trans e) (Heap.get?_update_self _ hS' rfl) (fun v q => by cases q)) (Heap.get?_update_self _ hS' rfl)⟩)
      · refine wpAny_bind (wpAny_rule ?_)
        refine wpAny_bind (wpAny_attempt (wpAny_holding (wpAny_add_int ?_)))
        show wpAny _ A.in1 (updateSeq S (fun _ => #[.int (tot + vi) s'.toks]) >>= _) _ _ _
        refine wpAny_bind (wpAny_updateSeq hS' rfl ?_)
        have hS₂ := Heap.get?_update_self (Obj.mapSeq fun _ => #[Value.int (tot + vi) s'.toks]) hS' rfl
        refine wpAny_bind (wpAny_letGo ?_)
        refine wpAny_bind (wpAny_updateSeq hS₂ rfl (wpAny_pure ⟨plainId_quiet F.plain_sum_loop _, ih' _ s'.toks _ 2 (.inr rfl) (W.upd S (i + 1) s' _ _ _ hst' (fun b u hb e => (Heap.get?_update_other _ _ (Ne.symm hb)).trans ((Heap.get?_update_other _ _ (Ne.symm hb)).trans e)) (Heap.get?_update_self _ hS₂ rfl) (fun v q => by cases q)) (Heap.get?_update_self _ hS₂ rfl)⟩))
    · show wpAny _ A.in1 ((holding [Value.int vi t] (binaryOp .Add (.int tot tA) (.int vi t))).attempt >>= _) _ _ _
      refine wpAny_bind (wpAny_attempt (wpAny_holding (wpAny_add_int ?_)))
      show wpAny _ A.in1 (updateSeq S (fun _ => #[.int (tot + vi) s'.toks]) >>= _) _ _ _
      refine wpAny_bind (wpAny_updateSeq hS' rfl ?_)
      have hS₂ := Heap.get?_update_self (Obj.mapSeq fun _ => #[Value.int (tot + vi) s'.toks]) hS' rfl
      refine wpAny_bind (wpAny_letGo ?_)
      refine wpAny_bind (wpAny_updateSeq hS₂ rfl (wpAny_pure ⟨plainId_quiet F.plain_sum_loop _, ih' _ s'.toks _ 2 (.inr rfl) (W.upd S (i + 1) s' _ _ _ hst' (fun b u hb e => (Heap.get?_update_other _ _ (Ne.symm hb)).trans ((Heap.get?_update_other _ _ (Ne.symm hb)).trans e)) (Heap.get?_update_self _ hS₂ rfl) (fun v q => by cases q)) (Heap.get?_update_self _ hS₂ rfl)⟩))
theorem call_sumF {ns : List Int} {Q : Value → Shared → Prop} (W : Fd prog w A.in1 I (ns.map V.int) St GF) (hg : ∃ g, s.heap.IsGen I g) (hst : St none 0 s)
    (hQ : ∀ S s' t', GF S s' → Q (.int ns.sum t') s') : wpAny (model prog w) A (call (.builtin "sum") [.ref I]) Q E s := by
  obtain ⟨g, hg⟩ := hg
  refine call_function_tree F.kind_sum F.plain_sum F.entry_sum (F.args_sum1 _) ?_
  unfold Builtin.«sum»
  simp only [List.length_cons, List.length_nil]
  rw [if_neg (by decide)]
  refine wpAny_bind (wpAny_of_eq (show Builtin.Builtins.bindParams "sum" ["start"] 0 { } = pure [none] from rfl) ?_)
  refine wpAny_bind (wpAny_pyIter_gen hg ?_)
  refine wpAny_bind (wpAny_mkInt ?_)
  refine wpAny_bind (wpAny_pure ?_)
  simp only [List.forIn_cons, List.forIn_nil]
  refine wpAny_bind (wpAny_bind (wpAny_bind (wpAny_isInstance (T := "int") (b := false) (typeIs_int _ _ _) PySem.sub_int_str ?_)))
  simp only [Bool.false_eq_true, if_false]
  refine wpAny_pure (wpAny_bind (wpAny_bind (wpAny_isInstance (T := "int") (b := false) (typeIs_int _ _ _) PySem.sub_int_bytes ?_)))
  simp only [Bool.false_eq_true, if_false]
  refine wpAny_pure (wpAny_bind (wpAny_bind (wpAny_isInstance (T := "int") (b := false) (typeIs_int _ _ _) PySem.sub_int_bytearray ?_)))
  simp only [Bool.false_eq_true, if_false]
  refine wpAny_pure (wpAny_pure ?_)
  refine wpAny_bind (wpAny_newObj_type ?_)
  refine wpAny_pure ⟨plainId_quiet F.plain_sum_loop _, sum_loopF W rfl s.heap.objs.size ns.length 0 _ s.toks 0 0 (.inl rfl) rfl (Nat.zero_le _)
    (W.new s _ _ hst (fun v q => by cases q) rfl) (Heap.get?_push_size _ rfl) fun s' t' hm => hQ _ s' t' hm⟩
/-! all, any -/
theorem all_loopF (W : Fd prog w A.in1 I bs St GF) {ks : List Bool} (hb : bs = ks.map V.bl) : ∀ (k i : Nat) (s : Shared), ks.length - i = k → i ≤ ks.length → St none i s →
    (∀ s', GF none s' → R (.ok (.ret (.bool ((ks.drop i).all id)))) s') → codeAny (model prog w) A (.builtin "all.loop" ⟨[.ref I], []⟩) R s := by
  intro k
  induction k with
  | zero =>
    intro i s hk hi hst hR
    have hin : i = ks.length := by omega
    subst hin
    refine codeAny_builtin F.entry_all_loop ?_
    rw [Around.under_plainId F.plain_all_loop _]
    show wpAny _ A.in1 (pyNext (.ref I) >>= _) _ _ s
    refine wpAny_bind (W.done none s _ _ (by rw [hb, List.length_map]; exact hst) fun s' hm _ => ?_)
    refine wpAny_bind (wpAny_rule (wpAny_pure ?_))
    have := hR s' hm
    rw [List.drop_of_length_le (Nat.le_refl _)] at this
    exact this
  | succ k ih =>
    intro i s hk hi hst hR
    have hlt : i < ks.length := by omega
    have hbi : bs[i]? = some (V.bl ks[i]) := by rw [hb, List.getElem?_map, List.getElem?_eq_getElem hlt]; rfl
    have dj := List.drop_eq_getElem_cons hlt
    refine codeAny_builtin F.entry_all_loop ?_
    rw [Around.under_plainId F.plain_all_loop _]
    show wpAny _ A.in1 (pyNext (.ref I) >>= _) _ _ s
    refine wpAny_bind (W.item none i s _ _ _ hbi hst fun v s' hP hst' hm => ?_)
    have ev : v = .bool ks[i] := hP
    subst ev
    refine wpAny_bind (wpAny_holding (wpAny_truthy_bool ?_))
    refine wpAny_bind (wpAny_letGo ?_)
    cases hk2 : ks[i] with
    | true =>
      simp only [if_true]
      refine wpAny_pure ⟨plainId_quiet F.plain_all_loop _, ih (i + 1) _ (by omega) hlt hst' fun s2 q => ?_⟩
      have := hR s2 q
      rw [dj, List.all_cons, hk2] at this
      exact this
    | false =>
      simp only [Bool.false_eq_true, if_false]
      refine wpAny_bind (wpAny_rule (wpAny_pure ?_))
      have := hR _ (W.quit _ _ _ hst')
      rw [dj, List.all_cons, hk2] at this
      exact this
theorem call_allF {ks : List Bool} {Q : Value → Shared → Prop} (W : Fd prog w A.in1 I (ks.map V.bl) St GF) (hg : ∃ g, s.heap.IsGen I g) (hst : St none 0 s)
    (hQ : ∀ S s', GF S s' → Q (.bool (ks.all id)) s') : wpAny (model prog w) A (call (.builtin "all") [.ref I]) Q E s := by
  obtain ⟨g, hg⟩ := hg
  refine call_function_tree F.kind_all F.plain_all F.entry_all (F.args_all1 _) ?_
  unfold Builtin.«all»
  refine wpAny_bind (m := oneArg "all" _) (wpAny_pure ?_)
  refine wpAny_bind (wpAny_pyIter_gen hg ?_)
  exact wpAny_pure ⟨plainId_quiet F.plain_all_loop _, all_loopF W rfl ks.length 0 s rfl (Nat.zero_le _) hst fun s' q => by have := hQ none s' q; exact this⟩
theorem any_loopF (W : Fd prog w A.in1 I bs St GF) {ks : List Bool} (hb : bs = ks.map V.bl) : ∀ (k i : Nat) (s : Shared), ks.length - i = k → i ≤ ks.length → St none i s →
    (∀ s', GF none s' → R (.ok (.ret (.bool ((ks.drop i).any id)))) s') → codeAny (model prog w) A (.builtin "any.loop" ⟨[.ref I], []⟩) R s := by
  intro k
  induction k with
  | zero =>
    intro i s hk hi hst hR
    have hin : i = ks.length := by omega
    subst hin
    refine codeAny_builtin F.entry_any_loop ?_
    rw [Around.under_plainId F.plain_any_loop _]
    show wpAny _ A.in1 (pyNext (.ref I) >>= _) _ _ s
    refine wpAny_bind (W.done none s _ _ (by rw [hb, List.length_map]; exact hst) fun s' hm _ => ?_)
    refine wpAny_bind (wpAny_rule (wpAny_pure ?_))
    have := hR s' hm
    rw [List.drop_of_length_le (Nat.le_refl _)] at this
    exact this
  | succ k ih =>
    intro i s hk hi hst hR
    have hlt : i < ks.length := by omega
    have hbi : bs[i]? = some (V.bl ks[i]) := by rw [hb, List.getElem?_map, List.getElem?_eq_getElem hlt]; rfl
    have dj := List.drop_eq_getElem_cons hlt
    refine codeAny_builtin F.entry_any_loop ?_
    rw [Around.under_plainId F.plain_any_loop _]
    show wpAny _ A.in1 (pyNext (.ref I) >>= _) _ _ s
    refine wpAny_bind (W.item none i s _ _ _ hbi hst fun v s' hP hst' hm => ?_)
    have ev : v = .bool ks[i] := hP
    subst ev
    refine wpAny_bind (wpAny_holding (wpAny_truthy_bool ?_))
    refine wpAny_bind (wpAny_letGo ?_)
    cases hk2 : ks[i] with
    | false =>
      simp only [Bool.false_eq_true, if_false]
      refine wpAny_pure ⟨plainId_quiet F.plain_any_loop _, ih (i + 1) _ (by omega) hlt hst' fun s2 q => ?_⟩
      have := hR s2 q
      rw [dj, List.any_cons, hk2] at this
      exact this
    | true =>
      simp only [if_true]
      refine wpAny_bind (wpAny_rule (wpAny_pure ?_))
      have := hR _ (W.quit _ _ _ hst')
      rw [dj, List.any_cons, hk2] at this
      exact this
theorem call_anyF {ks : List Bool} {Q : Value → Shared → Prop} (W : Fd prog w A.in1 I (ks.map V.bl) St GF) (hg : ∃ g, s.heap.IsGen I g) (hst : St none 0 s)
    (hQ : ∀ S s', GF S s' → Q (.bool (ks.any id)) s') : wpAny (model prog w) A (call (.builtin "any") [.ref I]) Q E s := by
  obtain ⟨g, hg⟩ := hg
  refine call_function_tree F.kind_any F.plain_any F.entry_any (F.args_any1 _) ?_
  unfold Builtin.«any»
  refine wpAny_bind (m := oneArg "any" _) (wpAny_pure ?_)
  refine wpAny_bind (wpAny_pyIter_gen hg ?_)
  exact wpAny_pure ⟨plainId_quiet F.plain_any_loop _, any_loopF W rfl ks.length 0 s rfl (Nat.zero_le _) hst fun s' q => by have := hQ none s' q; exact this⟩
end
end M

set_option Elab.async false
set_option linter.all false
set_option maxRecDepth 100000
set_option maxHeartbeats 4000000
namespace M
open PySem PySem.Spec PyProof.Rows L2
section
variable {X : Cx} {pins : List (Addr × Obj)} {σ : L2.St} {H : Hp} {s : Shared}
/-- a pinned object of another's changes -/
theorem repin {c : Addr} {o o' : Obj} {h' : Heap} {t' : Nat} (I : Inv X [(c, o)] σ H s) (h0 : X.s_0.heap.get? c = none) (na : ∀ p ∈ X.pn, p.1 ≠ c) (k : ∀ b u, b ≠ c → s.heap.get? b = some u → h'.get? b = some u) (hc : h'.get? c = some o') (nd : ∀ v, o'.data ≠ .cell v) :
    Inv X [(c, o')] σ H { s with heap := h', toks := t' } := by
  obtain ⟨pe, pn, pl, pf, pc⟩ := I.pin (c, o) (List.mem_append_right _ List.mem_cons_self)
  have ne0 : ∀ b u, X.s_0.heap.get? b = some u → b ≠ c := fun b u e z => by rw [z, h0] at e; cases e
  have neH : ∀ b u, H b = some u → b ≠ c := fun b u e z => by rw [z] at e; rw [show H c = none from pn] at e; cases e
  have cellK : ∀ q v, s.heap.IsCell q v → h'.IsCell q v := fun q v ⟨ob, ho, hd⟩ => ⟨ob, k q ob (fun z => by rw [z] at ho; rw [show s.heap.get? c = some o from pe] at ho; cases ho; exact pc _ hd) ho, hd⟩
  refine ⟨I.ok, I.os, I.bare, ⟨fun b u e n hb hx => k b u (ne0 b u e) (I.base.keep b u e n hb hx), fun b u e n hb hx => ?_, I.base.free, fun b u e hx => ?_, I.base.tups, I.base.frzs, I.base.tbls⟩, ?_, fun x q e => ?_, I.free, I.freeC, fun p hp => ?_, fun b u e => ?_, I.len⟩
  · obtain ⟨sl, q⟩ := I.base.slot b u e n hb hx
    exact ⟨sl, k b _ (ne0 b u e) q⟩
  · obtain ⟨u', q⟩ := I.base.there b u e hx
    exact ⟨u', k b _ (ne0 b u e) q⟩
  · obtain ⟨m, ⟨ob, es, ep, ho, r⟩, hl⟩ := I.loc
    refine ⟨m, ⟨ob, es, ep, k _ _ (Ne.symm pl) ho, r⟩, fun i x v e1 e2 e3 => ?_⟩
    obtain ⟨u, r', l⟩ := hl i x v e1 e2 e3
    refine ⟨u, r', ?_⟩
    rcases l with l | ⟨kk, q, ec, z⟩
    · exact .inl l
    · exact .inr ⟨kk, q, ec, cellK q _ z⟩
  · obtain ⟨v, z⟩ := I.cell x q e
    exact ⟨v, cellK q v z⟩
  · rcases List.mem_append.mp hp with hp | hp
    · obtain ⟨e, n, r⟩ := I.pin p (List.mem_append_left _ hp)
      exact ⟨k _ _ (na p hp) e, n, r⟩
    · have hp : p = (c, o') := by simpa using hp
      subst hp
      exact ⟨hc, pn, pl, pf, nd⟩
  · exact (I.hok b u e).stay (fun q v hq z => k q v (by
      rcases hq with rfl | hq
      · exact neH _ _ e
      · exact neH _ _ hq) z) (fun q z => z) fun q xs z => z
/-- a new object of another's is pinned -/
theorem newpin {o : Obj} {t' : Nat} (I : Inv X [] σ H s) (nd : ∀ v, o.data ≠ .cell v) (hf : o.isFreed = false) : Inv X [(s.heap.objs.size, o)] σ H { s with heap := s.heap.push o, toks := t' } := by
  have J := I.kept (t' := t') (h' := s.heap.push o) fun b u e => Heap.get?_push_of_some _ e
  refine ⟨J.ok, J.os, J.bare, J.base, J.loc, J.cell, J.free, J.freeC, fun p hp => ?_, J.hok, J.len⟩
  rcases List.mem_append.mp hp with hp | hp
  · exact J.pin p (List.mem_append_left _ hp)
  · have hp : p = (s.heap.objs.size, o) := by simpa using hp
    subst hp
    exact ⟨Heap.get?_push_size _ hf, I.hok.fresh (Nat.le_refl _), Ne.symm (Nat.ne_of_lt I.lt), fun z => I.nofs (Nat.le_refl _) z, nd⟩
end
def pinsOf (S : Option Addr) (s : Shared) : List (Addr × Obj) := match S with
  | none => []
  | some c => match s.heap.get? c with
    | some o => [(c, o)]
    | none => []
def gYF (GS : Option Addr → Nat → Shared → Prop) (S : Option Addr) (bs : List V) : Protocol := fun m s₀ v s1 kap =>
  ∃ j b, m + (j + 1) = bs.length ∧ bs[j]? = some b ∧ RelV b v ∧ GS S (j + 1) s1 ∧ (∀ c, S = some c → s1.heap.get? c = s₀.heap.get? c) ∧ ∀ s'' : Shared, GS S (j + 1) s'' → kap (.send .none) s''
def gEF (GF : Option Addr → Shared → Prop) (S : Option Addr) : GenEnd := fun n s₀ r s1 => r = .ok .next ∧ (n = 0 ∧ GF S s1 ∧ ∀ c, S = some c → s1.heap.get? c = s₀.heap.get? c)
/-- what a builtin makes of what is fed to it -/
structure Csm (prog : Program) (w : World) (id : String) (p : List V → Option V) : Prop where
  run : ∀ (A : Around) (E : Value → Shared → Prop) (s : Shared) (I : Addr) (bs : List V) (r : V) (St : Option Addr → Nat → Shared → Prop) (GF : Option Addr → Shared → Prop) (Q : Value → Shared → Prop), A.handled = none → p bs = some r → Fd prog w A.in1 I bs St GF → (∃ g, s.heap.IsGen I g) → St none 0 s →
    (∀ S s' v', GF S s' → RelV r v' → Q v' s') → wpAny (model prog w) A (call (.builtin id) [.ref I]) Q E s
/-- the feeder of a generator -/
theorem fd_of {P : Program} {w : World} {A : Around} {a : Addr} {g : Nat} {bs : List V} {GS : Option Addr → Nat → Shared → Prop} {GF : Option Addr → Shared → Prop} (hh : A.handled = none) (hd : A.depth < recursionLimit)
    (hgen : ∀ S i s, GS S i s → s.heap.IsGen a g ∧ s.heap.NoLimit ∧ AllBare s.gens)
    (hset : ∀ S i s gs, GS S i s → gs.bare = true → GS S i (s.setGen g gs)) (hsetF : ∀ S s gs, GF S s → gs.bare = true → GF S (s.setGen g gs))
    (hkF : ∀ S s h', GF S s → (∀ b o, s.heap.get? b = some o → h'.get? b = some o) → GF S { s with heap := h' })
    (hupd : ∀ (c : Addr) (j : Nat) (s : Shared) (o : Obj) (h' : Heap) (tk : Nat), GS (some c) j s → (∀ b u, b ≠ c → s.heap.get? b = some u → h'.get? b = some u) → h'.get? c = some o → (∀ v, o.data ≠ .cell v) → GS (some c) j { s with heap := h', toks := tk })
    (hupF : ∀ (c : Addr) (s : Shared) (o : Obj) (h' : Heap) (tk : Nat), GF (some c) s → (∀ b u, b ≠ c → s.heap.get? b = some u → h'.get? b = some u) → h'.get? c = some o → (∀ v, o.data ≠ .cell v) → GF (some c) { s with heap := h', toks := tk })
    (hnew : ∀ (j : Nat) (s : Shared) (o : Obj) (tk : Nat), GS none j s → (∀ v, o.data ≠ .cell v) → o.isFreed = false → GS (some s.heap.objs.size) j { s with heap := s.heap.push o, toks := tk })
    (hq : ∀ S j s, GS S j s → GF S s) (hold : ∀ c s, GF (some c) s → ∃ o, s.heap.get? c = some o) (holdS : ∀ c j s, GS (some c) j s → ∃ o, s.heap.get? c = some o) :
    Fd P w A a bs (fun S j s => j ≤ bs.length ∧ GS S j s ∧ ∃ gs, s.gens[g]? = some gs ∧ ∀ S', ((S = none ∧ j = 0) ∨ S' = S) → ∀ s'', GS S' j s'' → gs.Goes (model P w) A.in1 (gEF GF S') (gYF GS S' bs) (bs.length - j) (.send .none) s'') GF where
  item := fun S j s b Q E hb ⟨hj, st, gs, hgs, hgo⟩ hQ => by
    obtain ⟨hg, hl, hbr⟩ := hgen _ _ _ st
    have hlt := (List.getElem?_eq_some_iff.mp hb).1
    have hgl : g < s.gens.size := (Array.getElem?_eq_some_iff.mp hgs).1
    obtain ⟨m, hm⟩ : ∃ m, bs.length - j = m + 1 := ⟨bs.length - j - 1, by omega⟩
    have hgo2 := hgo S (.inr rfl) _ (hset _ _ _ _ st rfl : GS S j (s.setGen g .running))
    rw [hm] at hgo2
    refine GenW.wpAny_gsz (n := g + 1) hgl (wpAny_pyNext_genexpQ (A := A) (P := fun n s₀ s1 => n = 0 ∧ GF S s1 ∧ ∀ c, S = some c → s1.heap.get? c = s₀.heap.get? c) hh hl hd hg hgs hgo2 (fun v s₁ gs' hbare hv => ?_) (fun s₁ hp h' hk => ?_))
    · intro hsz
      obtain ⟨j', b', hj', hbj, rv, st1, hS, hkap⟩ := hv
      have hji : j' = j := by omega
      subst hji
      rw [hb] at hbj
      cases hbj
      have hsz1 : g < s₁.gens.size := by
        have q : (s₁.setGen g gs').gens.size = s₁.gens.size := by simp [Shared.setGen]
        have hsz' : g + 1 ≤ (s₁.setGen g gs').gens.size := hsz
        omega
      refine hQ v _ rv ⟨hlt, hset _ _ _ _ st1 hbare, gs', L2.setGen_at hsz1, fun S' hS' s'' st'' => ?_⟩ fun c hc => hS c hc
      rcases hS' with ⟨_, z⟩ | rfl
      · exact absurd z (Nat.succ_ne_zero _)
      · have e : bs.length - (j' + 1) = m := by omega
        rw [e]
        exact hkap _ st''
    · exact absurd hp.1 (Nat.succ_ne_zero m)
  done := fun S s Q E ⟨hj, st, gs, hgs, hgo⟩ hQ => by
    obtain ⟨hg, hl, hbr⟩ := hgen _ _ _ st
    have hgo2 := hgo S (.inr rfl) _ (hset _ _ _ _ st rfl : GS S bs.length (s.setGen g .running))
    rw [Nat.sub_self] at hgo2
    refine wpAny_pyNext_genexpQ (A := A) (P := fun n s₀ s1 => n = 0 ∧ GF S s1 ∧ ∀ c, S = some c → s1.heap.get? c = s₀.heap.get? c) hh hl hd hg hgs hgo2 (fun v s₁ gs' hb hv => ?_) (fun s₁ hp h' hk => ?_)
    · obtain ⟨j, b, hj', hbj, _, st1, _, hkap⟩ := hv
      exact False.elim (hkap _ st1)
    · obtain ⟨_, hg1, hS⟩ := hp
      refine hQ _ (hkF _ _ _ (hsetF _ _ _ hg1 rfl) hk) fun c hc => ?_
      subst hc
      obtain ⟨o, ho⟩ := hold c _ hg1
      have e1 := hS c rfl
      have e2 := hk c o ho
      rw [ho] at e1
      exact e2.trans e1
  upd := fun c j s o h' tk ⟨hj, st, gs, hgs, hgo⟩ k hc nd => ⟨hj, hupd c j s o h' tk st k hc nd, gs, hgs, hgo⟩
  updF := hupF
  new := fun s o tk ⟨hj, st, gs, hgs, hgo⟩ nd hf => ⟨hj, hnew 0 s o tk st nd hf, gs, hgs, fun S' _ s'' q => hgo S' (.inl ⟨rfl, rfl⟩) s'' q⟩
  quit := fun S j s ⟨_, st, _⟩ => hq _ _ _ st

theorem fm_at {α β : Type} (f : α → Option β) {l : List α} {i : Nat} (h : i < l.length) : (l.take (i + 1)).filterMap f = (l.take i).filterMap f ++ (f l[i]).toList := by
  rw [List.take_succ, List.getElem?_eq_getElem h, List.filterMap_append]
  cases e : f l[i] <;> simp [e]
theorem fm_get {α β : Type} (f : α → Option β) {l : List α} {i : Nat} {b : β} (h : i < l.length) (e : f l[i] = some b) : (l.filterMap f)[((l.take i).filterMap f).length]? = some b := by
  have h1 : l.filterMap f = (l.take i).filterMap f ++ (l.drop i).filterMap f := by rw [← List.filterMap_append, List.take_append_drop]
  rw [h1, List.getElem?_append_right (Nat.le_refl _), Nat.sub_self, List.drop_eq_getElem_cons h, List.filterMap_cons_some e]; rfl
theorem fm_mono {α β : Type} (f : α → Option β) (l : List α) {i j : Nat} (h : i ≤ j) : ((l.take i).filterMap f).length ≤ ((l.take j).filterMap f).length := by
  have : l.take i = (l.take j).take i := by rw [List.take_take, Nat.min_eq_left h]
  rw [this]
  exact ((List.take_sublist i (l.take j)).filterMap f).length_le
section
variable {C : Cn} {τ : List Sl} {n : Nat} {pos : Pos} {Q : Av → List Sl → Nat → Prop}
def GenTurn (C : Cn) (scope : Scope) (k : Nat) (vs : List Nat) (ifs : List Expr) (elt : Expr) (Ok : PyData → Prop) (set : PyData → List Sl → List Sl) (yl : PyData → Option V) (τ1 : List Sl) (n1 : Nat) (d : PyData) : Prop :=
  Ok d ∧ ∀ s H cE cl code fp pn Aw, Room k Aw → ETs (C.gen s H scope cE cl code fp pn Aw) (set d (wipeS τ1 vs)) n1 ifs fun b τ2 n2 => τ2 = set d (wipeS τ1 vs) ∧ n2 = n1 ∧ (b = false → yl d = none) ∧
    (b = true → ∃ r, yl d = some r ∧ EX (C.gen s H scope cE cl code fp pn Aw) (set d (wipeS τ1 vs)) n1 elt fun y τ3 n3 => τ3 = set d (wipeS τ1 vs) ∧ n3 = n1 ∧ ∀ G v, Rv C.WK G v y → v = r)
theorem ex_genC {id : String} {p : List V → Option V} {bz : Str} {c P : Addr} {own : List (Str × Nat)} {k : Nat} {bp gpos : Pos} {scope : Scope} {tg elt iter : Expr} {ifs : List Expr} {Ok : PyData → Prop} {set : PyData → List Sl → List Sl} (K : Csm C.X.prog C.X.w id p) (hr : Room (k + 4) C.X.A) (hz : Bl C.X bz) (hboot : bootBuiltins bz = some (.builtin id))
    (TB : GxR.TabB C.X.base C.X.mg c P) (hPT : P ∈ C.W.T) (hcode : C.X.env.code = .ref c) (hc : C.X.calm = true) (hN : C.X.N.Nodup)
    (ok : BlkOk C.X.N C.X.env.scope scope own) (S : GSd scope) (hl : ifs.length ≤ 1) (hset : SetOk (own.map (·.2)) set) (ht : ∀ s H cE cl code fp pn Aw, Tg (C.gen s H scope cE cl code fp pn Aw).X tg (own.map (·.2)) Ok set)
    (h : EI C τ n tg iter fun ds τ1 n1 => (∀ j ∈ own.map (·.2), ∀ es, τ1[j]? ≠ some (.ow es)) ∧ ∃ yl : PyData → Option V, (∀ d ∈ ds, GenTurn C scope k (own.map (·.2)) ifs elt Ok set yl τ1 n1 d) ∧ ∃ r x, p (ds.filterMap yl) = some r ∧ (∀ G, Rv C.WK G r x) ∧ Q x τ1 n1)
    (hs : ∀ v, genFold iter C.X.env v = pure v := by intro _; rfl)
    (he : starEach [.GeneratorExp elt [⟨tg, iter, ifs, 0⟩] scope gpos] C.X.env = (false, eval (.GeneratorExp elt [⟨tg, iter, ifs, 0⟩] scope gpos) C.X.env) :: starEach [] C.X.env := by rfl) (hn : bz ≠ "__name__" := by decide) (hdb : (bz == ("__debug__" : Str)) = false := by decide) :
    EX C τ n (.Call (.Name bz bp) [.GeneratorExp elt [⟨tg, iter, ifs, 0⟩] scope gpos] [] pos) Q := by
  intro pv σ G H R A kk pins s I
  refine wpAny_Call_Name_kw (ld_blt I hz.hg hz.hm hboot ?_ hn hdb)
  refine PyProof.Rows.callWith_builtin1 ?_ he (by rfl)
  rw [he]
  show wpAny _ _ (spliced ((false, eval (.GeneratorExp elt [⟨tg, iter, ifs, 0⟩] scope gpos) C.X.env) :: backTo pos (starEach [] C.X.env))) _ _ s
  refine Calls.spliced_cons (gen_mkT (ti := RI C.X tg iter) (own := own) (RR := fun J H1 => ∃ ds G1 τ1 n1, C.As pv σ G1 H1 τ1 n1 ∧ Ex G G1 ∧ SeqOk C J G1 ds ∧ ((∀ j ∈ own.map (·.2), ∀ es, τ1[j]? ≠ some (.ow es)) ∧ ∃ yl : PyData → Option V, (∀ d ∈ ds, GenTurn C scope k (own.map (·.2)) ifs elt Ok set yl τ1 n1 d) ∧ ∃ r x, p (ds.filterMap yl) = some r ∧ (∀ G, Rv C.WK G r x) ∧ Q x τ1 n1)) hr TB hcode hN ok S pi_ri hs I
    (h pv σ G H _ A fun J ds G1 H1 τ1 n1 A1 e1 sq q => ⟨A1.wi.1 P hPT, ds, G1, τ1, n1, A1, e1, sq, q⟩) fun J H1 H2 s4 s5 it fp tn code a g go rr tb I4 T ffp st os5 b5 gs5 hgen mk => ?_)
  obtain ⟨ds, G1, τ1, n1, A1, e1, sq, hno, yl, turn, r, x, hp, hrx, fin⟩ := rr
  have A2 := As.tab A1 hPT tb
  generalize hcE : genEnv scope (cloFrom C.X.env.cells scope.names []) s4.heap.objs.size code builtinsNs C.X.env = cenv at gs5 mk
  generalize hvs : own.map (·.2) = vs at *
  have hrw : Room k (C.X.A.in1.in1.deeper cenv) := (((hr.mono (show k + 3 ≤ k + 4 by omega)).in1).in1).deeper cenv
  have hfr : (C.X.A.in1.in1.deeper cenv).frames = some (cenv :: C.X.stack) := Around.frames_deeper I.ok.frames
  have hhw : (C.X.A.in1.in1.deeper cenv).handled = none := hrw.hd
  have J5 := mk (C.X.A.in1.in1.deeper cenv) hhw hfr
  have tgX := ht s4 H2 s4.heap.objs.size (cloFrom C.X.env.cells scope.names []) code fp [(a, go)] (C.X.A.in1.in1.deeper cenv)
  have trX := fun d hd => turn d hd
  rw [show (C.gen s4 H2 scope s4.heap.objs.size (cloFrom C.X.env.cells scope.names []) code fp [(a, go)] (C.X.A.in1.in1.deeper cenv)).X = gX C.X s4 H2 cenv fp [(a, go)] (C.X.A.in1.in1.deeper cenv) from by rw [← hcE]; rfl] at tgX
  generalize hXg : gX C.X s4 H2 cenv fp [(a, go)] (C.X.A.in1.in1.deeper cenv) = Xg at J5 tgX
  have xA : Xg.A = C.X.A.in1.in1.deeper cenv := by rw [← hXg]
  have xP : Xg.prog = C.X.prog := by rw [← hXg]
  have xw : Xg.w = C.X.w := by rw [← hXg]
  have xK : Xg.K = C.X.K := by rw [← hXg]
  have xc : Xg.calm = true := by rw [← hXg]; exact hc
  have xE : Xg.env = cenv := by rw [← hXg]
  have xpn : Xg.pn = [(a, go)] := by rw [← hXg]
  have xs0 : Xg.s_0 = s4 := by rw [← hXg]
  let GSi : Option Addr → Nat → Shared → Prop := fun S i s' => ∃ G' H', Inv Xg (pinsOf S s') (wipe σ vs) H' s' ∧ C.As pv σ G' H' τ1 n1 ∧ Ex G1 G' ∧ tn i s'.heap ∧ (∀ b ∈ fp, H' b = none) ∧ ∀ c, S = some c → c ∉ fp ∧ c ≠ a ∧ s4.heap.get? c = none ∧ ∃ o, s'.heap.get? c = some o
  let GS : Option Addr → Nat → Shared → Prop := fun S j s' => ∃ i, i ≤ ds.length ∧ ((ds.take i).filterMap yl).length = j ∧ GSi S i s'
  let GF : Option Addr → Shared → Prop := fun S s' => ∃ G' H', Inv Xg (pinsOf S s') (wipe σ vs) H' s' ∧ C.As pv σ G' H' τ1 n1 ∧ Ex G1 G' ∧ ∀ c, S = some c → c ≠ a ∧ s4.heap.get? c = none ∧ ∃ o, s'.heap.get? c = some o
  have hlen : ∀ i, i ≤ ds.length → ((ds.take i).filterMap yl).length + ((ds.drop i).filterMap yl).length = (ds.filterMap yl).length := fun i _ => by
    rw [← List.length_append, ← List.filterMap_append, List.take_append_drop]
  have psame : ∀ {S : Option Addr} {s' s1 : Shared} {σ' : L2.St} {H' : Hp} {pl : List (Addr × Obj)}, (∀ c, S = some c → ∃ o, s'.heap.get? c = some o) → Inv Xg (pinsOf S s' ++ pl) σ' H' s1 → pinsOf S s1 = pinsOf S s' ∧ ∀ c, S = some c → s1.heap.get? c = s'.heap.get? c := fun {S s' s1 σ' H' pl} ho J' => by
    cases S with
    | none => exact ⟨rfl, fun c z => nomatch z⟩
    | some c =>
      obtain ⟨o, e⟩ := ho c rfl
      have e1 : s1.heap.get? c = some o := (J'.pin (c, o) (List.mem_append_right _ (List.mem_append_left _ (by unfold pinsOf; simp [e])))).1
      refine ⟨by unfold pinsOf; simp [e, e1], fun c' z => ?_⟩
      cases z
      rw [e, e1]
  have stat : ∀ {S : Option Addr} {s' s1 : Shared} {σ' : L2.St} {H' : Hp}, Inv Xg (pinsOf S s') σ' H' s1 → (∀ c, S = some c → c ∉ fp) → (∀ b ∈ fp, H' b = none) → ∀ b ∈ fp, FpOk Xg (pinsOf S s') H' b := fun {S s' s1 σ' H'} J' hcf hn b hb => by
    refine ⟨hn b hb, ?_, ?_, .inl (by rw [← hXg]; exact hb), ?_, fun p hp z => ?_⟩
    · exact (J'.ok.exf b (by rw [← hXg]; exact hb)).1
    · exact J'.ok.exfs b (by rw [← hXg]; exact hb)
    · exact (J'.ok.exf b (by rw [← hXg]; exact hb)).2
    · rcases List.mem_append.mp hp with hp | hp
      · rw [xpn] at hp
        have hp : p = (a, go) := by simpa using hp
        subst hp
        exact (ffp b hb).2 z.symm
      · cases S with
        | none => simp [pinsOf] at hp
        | some c =>
          simp only [pinsOf] at hp
          split at hp
          · have hp := List.mem_singleton.mp hp
            have z2 : p.1 = b := z
            rw [hp] at z2
            exact hcf c rfl (by rw [show c = b from z2]; exact hb)
          · cases hp
  have keepO : ∀ (i : Nat) es, τ1[i]? = some (.ow es) → i ∉ vs := fun i es q hj => hno i hj es q
  have hco : ∀ v, yieldOut cenv v = yieldValue v := fun v => by rw [← hcE]; simp only [yieldOut, genEnv, S.co, Bool.false_eq_true, if_false]
  have seg : ∀ (Z : Option Addr) (k' i : Nat) (s0 s' : Shared), ds.length - i < k' → i ≤ ds.length → GSi Z i s' → (∀ c, Z = some c → s'.heap.get? c = s0.heap.get? c) → Seg (model C.X.prog C.X.w) C.X.A.in1.in1 (gEF GF Z) (gYF GS Z (ds.filterMap yl)) (((ds.drop i).filterMap yl).length) s0
      (.compLoop (.GeneratorExp elt [⟨tg, iter, ifs, 0⟩] scope gpos) 0 (.ref it) .none cenv) ((model C.X.prog C.X.w).den (.compLoop (.GeneratorExp elt [⟨tg, iter, ifs, 0⟩] scope gpos) 0 (.ref it) .none cenv)) [] s' := by
    intro Z k'
    induction k' with
    | zero => intro i s0 s' hk; exact absurd hk (Nat.not_lt_zero _)
    | succ k' ih =>
      intro i s0 s' hk hi ⟨G', H', J', A', e', t', f', hZ⟩ hs0
      by_cases hin : i = ds.length
      · subst hin
        rw [List.drop_length]
        show Seg _ C.X.A.in1.in1 _ _ _ s0 _ ((compTurn (.GeneratorExp elt [⟨tg, iter, ifs, 0⟩] scope gpos) 0 (.ref it) .none cenv).onRaise (leaving cenv)) [] s'
        rw [compTurn_gen, Sem.onRaise_eq_wrap]
        refine seg_bind_wrap (wpAny_standAt ?_)
        refine seg_bind_wrap ?_
        rw [over_cl, ← xA]
        refine wpAny_mono (T.done Xg xP xw xK xc _ (pinsOf Z s') s' _ H' (fun _ _ => False) J' (stat J' (fun c hc => (hZ c hc).1) f') t' (sq.stop _ _ _ _ _ _ _ A' e' (Nat.le_refl _))) (fun r s1 hr => ?_) fun _ _ z => z.elim
        obtain ⟨rfl, J1⟩ := hr
        obtain ⟨p1, p2⟩ := psame (pl := []) (fun c hc => (hZ c hc).2.2.2) (by rw [List.append_nil]; exact J1)
        exact seg_end (.ok .next) ⟨rfl, rfl, ⟨G', H', by rw [p1]; exact J1, A', e', fun c hc => ⟨(hZ c hc).2.1, (hZ c hc).2.2.1, by rw [p2 c hc]; exact (hZ c hc).2.2.2⟩⟩, fun c hc => (p2 c hc).trans (hs0 c hc)⟩
      have hlt : i < ds.length := by omega
      have hd : ds[i]? = some ds[i] := List.getElem?_eq_getElem hlt
      have hdm : ds[i] ∈ ds := List.getElem_mem hlt
      obtain ⟨go1, yld⟩ := sq.go pv σ G' H' τ1 n1 i _ A' e' hd
      obtain ⟨okd, tr⟩ := turn ds[i] hdm
      rw [List.drop_eq_getElem_cons hlt]
      show Seg _ C.X.A.in1.in1 _ _ _ s0 _ ((compTurn (.GeneratorExp elt [⟨tg, iter, ifs, 0⟩] scope gpos) 0 (.ref it) .none cenv).onRaise (leaving cenv)) [] s'
      rw [compTurn_gen, Sem.onRaise_eq_wrap]
      refine seg_bind_wrap (wpAny_standAt ?_)
      refine seg_bind_wrap ?_
      rw [over_cl, ← xA]
      refine wpAny_mono (T.item Xg xP xw xK xc i (pinsOf Z s') s' _ H' (fun _ _ => False) J' (stat J' (fun c hc => (hZ c hc).1) f') t' go1) (fun r s1 hr => ?_) fun _ _ z => z.elim
      obtain ⟨u, rfl, h4⟩ := hr
      refine seg_bind_wrap ?_
      rw [over_cl, ← xA]
      refine wpAny_mono h4 (fun _ s2 h2 => ?_) fun _ _ z => z.elim
      obtain ⟨xv, H3, I3, r3, y3, st3, fr3⟩ := h2
      obtain ⟨G3, A3, e3, r3d⟩ := yld xv H3 y3
      have I3' := I3.pinned (stat I3 (fun c hc => (hZ c hc).1) fr3) (T.obj _ _ st3)
      refine seg_bind_wrap ?_
      rw [over_cl, ← xA]
      have tgr := tgX.run C.WK C.G0 C.H0 pv (wipe σ vs) G3 H3 (wipeS τ1 vs) n1 xv ds[i] (fun σ' H8 => H8 = H3 ∧ C.As pv σ' G3 H3 (set ds[i] (wipeS τ1 vs)) n1 ∧ wipe σ' vs = wipe σ vs ∧ ∀ i', i' ∉ vs → σ'[i']? = σ[i']?)
        (by rw [← hXg]) (A3.wipe vs) r3d okd fun σ' A8 hw hk8 => ⟨rfl, A8, by rw [hw]; exact wipe_wipe σ vs, fun i' hi' => by rw [hk8 i' hi', wipe_ne hi']⟩
      have tgr2 := tgr _ s2 u I3' r3
      rw [xP, xw, xE] at tgr2
      refine wpAny_mono tgr2 (fun _ s8 h8 => ?_) fun e s z => (by rw [← hXg] at z; exact z.elim)
      obtain ⟨σ8, H8, I8, eH, A8, hw8, hk8⟩ := h8
      rw [eH] at I8
      -- what stands at the end of a turn
      have hl8 : (wipe σ vs).length = σ8.length := by
        have := congrArg List.length hw8
        rw [wipe_length, wipe_length] at this
        rw [wipe_length]; exact this.symm
      have g9 : ∀ (s9 : Shared) (G9 H9 : Hp), Inv Xg (pinsOf Z s' ++ pinsAt fp s2.heap) σ8 H9 s9 → C.As pv σ8 G9 H9 (set ds[i] (wipeS τ1 vs)) n1 → Ex G3 G9 → GSi Z (i + 1) s9 ∧ ∀ c, Z = some c → s9.heap.get? c = s'.heap.get? c := fun s9 G9 H9 I9 A9 e9 => by
        have pin' : ∀ b ∈ fp, ∀ o, s2.heap.get? b = some o → s9.heap.get? b = some o ∧ H9 b = none := fun b hb o e =>
          let z := I9.pin (b, o) (List.mem_append_right _ (List.mem_append_right _ (mem_pinsAt hb e)))
          ⟨z.1, z.2.1⟩
        obtain ⟨p1, p2⟩ := psame (fun c hc => (hZ c hc).2.2.2) I9
        refine ⟨⟨G9, H9, by
          rw [p1]
          exact (I9.unpinned (pins := pinsOf Z s')).weak hl8 (fun q v e => by rw [← hw8] at e; exact (wipe_some e).1), A3.rewind A9 e9 fun q es hq => ?_, (e'.trans e3).trans e9, T.keep _ _ _ st3 fun b hb o e => (pin' b hb o e).1, fun b hb => ?_, fun c hc => ⟨(hZ c hc).1, (hZ c hc).2.1, (hZ c hc).2.2.1, by rw [p2 c hc]; exact (hZ c hc).2.2.2⟩⟩, p2⟩
        · have hj := keepO q es hq
          exact ⟨by rw [hset _ _ _ hj, wipeS_ne hj]; exact hq, hk8 q hj⟩
        · obtain ⟨o, e, _⟩ := T.obj _ _ st3 b hb
          exact (pin' b hb o e).2
      have tr8 := tr s4 H2 s4.heap.objs.size (cloFrom C.X.env.cells scope.names []) code fp [(a, go)] (C.X.A.in1.in1.deeper cenv) hrw
      -- the element and its yield
      have el : ∀ (s9 : Shared) (G9 H9 : Hp) (r9 : V), Inv Xg (pinsOf Z s' ++ pinsAt fp s2.heap) σ8 H9 s9 → C.As pv σ8 G9 H9 (set ds[i] (wipeS τ1 vs)) n1 → Ex G3 G9 →
          EX (C.gen s4 H2 scope s4.heap.objs.size (cloFrom C.X.env.cells scope.names []) code fp [(a, go)] (C.X.A.in1.in1.deeper cenv)) (set ds[i] (wipeS τ1 vs)) n1 elt (fun y τ3 n3 => τ3 = set ds[i] (wipeS τ1 vs) ∧ n3 = n1 ∧ ∀ G v, Rv C.WK G v y → v = r9) →
          wpAny (model C.X.prog C.X.w) (C.X.A.in1.in1.deeper cenv) (eval elt cenv) (fun v s10 => RelV r9 v ∧ GSi Z (i + 1) s10 ∧ ∀ c, Z = some c → s10.heap.get? c = s'.heap.get? c) (fun _ _ => False) s9 := fun s9 G9 H9 r9 I9 A9 e9 tt => by
        have t2 := tt pv σ8 G9 H9 (fun y H10 => y = r9 ∧ ∃ G10, C.As pv σ8 G10 H10 (set ds[i] (wipeS τ1 vs)) n1 ∧ Ex G3 G10) A9 fun v y G10 H10 τ10 n10 A10 e10 r10 ⟨et, en, hb⟩ => by
          subst et en
          exact ⟨hb _ _ r10, G10, A10, e9.trans e10⟩
        have er : RE Xg elt σ8 H9 (fun y H10 => y = r9 ∧ ∃ G10, C.As pv σ8 G10 H10 (set ds[i] (wipeS τ1 vs)) n1 ∧ Ex G3 G10) := by
          rw [← hXg, ← hcE]
          rw [← hcE] at t2
          exact t2
        have e2 := er _ s9 I9
        rw [xP, xw, xE, xA] at e2
        refine wpAny_mono e2 (fun y s10 h10 => ?_) fun e s z => (by rw [← hXg] at z; exact z.elim)
        obtain ⟨v9, H10, I10, rv9, ev, G10, A10, e10⟩ := h10
        subst ev
        obtain ⟨q1, q2⟩ := g9 s10 G10 H10 I10 A10 e10
        exact ⟨rv9, q1, q2⟩
      -- behind the yield
      have yk : ∀ (r9 : V) (s10 : Shared), yl ds[i] = some r9 → GSi Z (i + 1) s10 → ∀ s'' : Shared, GS Z (((ds.take i).filterMap yl).length + 1) s'' → Seg (model C.X.prog C.X.w) C.X.A.in1.in1 (gEF GF Z) (gYF GS Z (ds.filterMap yl)) (((ds.drop (i + 1)).filterMap yl).length) s''
          (.compLoop (.GeneratorExp elt [⟨tg, iter, ifs, 0⟩] scope gpos) 0 (.ref it) .none cenv) ((model C.X.prog C.X.w).den (.compLoop (.GeneratorExp elt [⟨tg, iter, ifs, 0⟩] scope gpos) 0 (.ref it) .none cenv)) [] s'' := fun r9 s10 er g10 s'' ⟨i2, hi2, hc2, g2⟩ => by
        have h1 : i < i2 := by
          apply Nat.lt_of_not_le
          intro z
          have := fm_mono yl ds z
          omega
        have c1 : ((ds.take (i + 1)).filterMap yl).length = ((ds.take i).filterMap yl).length + 1 := by rw [fm_at yl hlt, er]; simp
        have l1 := hlen i2 hi2
        have l2 := hlen (i + 1) hlt
        have e : ((ds.drop (i + 1)).filterMap yl).length = ((ds.drop i2).filterMap yl).length := by omega
        rw [e]
        exact ih i2 s'' s'' (by omega) hi2 g2 fun c hc => rfl
      have c0 : ((ds.take i).filterMap yl).length + ((ds[i] :: ds.drop (i + 1)).filterMap yl).length = (ds.filterMap yl).length := by
        rw [← List.drop_eq_getElem_cons hlt]; exact hlen i hi
      rcases ifs with _ | ⟨cnd, _ | ⟨c2, rest⟩⟩
      · obtain ⟨_, _, _, h4⟩ := (show _ = _ ∧ _ = _ ∧ _ ∧ _ from tr8)
        obtain ⟨r9, er, tt⟩ := h4 rfl
        simp only [List.forIn_nil]
        refine seg_bind_wrap (wpAny_pure ?_)
        simp only [if_true, hco]
        rw [Sem.bind_eq_wrap', Sem.bind_eq_wrap', Sem.wrap_wrap, Sem.wrap_wrap]
        refine seg_wrap ?_
        rw [over_cl]
        refine wpAny_mono (el s8 G3 H3 r9 I8 A8 (Ex.refl _) tt) (fun y s10 h10 => ?_) fun _ _ z => z.elim
        obtain ⟨rv9, q1, q2⟩ := h10
        rw [List.filterMap_cons_some er, List.length_cons]
        rw [List.filterMap_cons_some er, List.length_cons] at c0
        refine seg_at (seg_yield rfl rfl rfl ⟨((ds.take i).filterMap yl).length, r9, by omega, fm_get yl hlt er, rv9, ⟨i + 1, hlt, by rw [fm_at yl hlt, er]; simp, q1⟩, fun c hc => (q2 c hc).trans (hs0 c hc), fun s'' q3 => ?_⟩)
        exact seg_again rfl (yk r9 s10 er q1 s'' q3)
      · have tc : ET (C.gen s4 H2 scope s4.heap.objs.size (cloFrom C.X.env.cells scope.names []) code fp [(a, go)] (C.X.A.in1.in1.deeper cenv)) (set ds[i] (wipeS τ1 vs)) n1 cnd (fun b τ2 n2 => τ2 = set ds[i] (wipeS τ1 vs) ∧ n2 = n1 ∧ (b = false → yl ds[i] = none) ∧
    (b = true → ∃ r, yl ds[i] = some r ∧ EX (C.gen s4 H2 scope s4.heap.objs.size (cloFrom C.X.env.cells scope.names []) code fp [(a, go)] (C.X.A.in1.in1.deeper cenv)) (set ds[i] (wipeS τ1 vs)) n1 elt fun y τ3 n3 => τ3 = set ds[i] (wipeS τ1 vs) ∧ n3 = n1 ∧ ∀ G v, Rv C.WK G v y → v = r)) := tr8
        have t2 := tc pv σ8 G3 H3 (fun b H10 => (b = false → yl ds[i] = none) ∧ (b = true → ∃ r, yl ds[i] = some r ∧ EX (C.gen s4 H2 scope s4.heap.objs.size (cloFrom C.X.env.cells scope.names []) code fp [(a, go)] (C.X.A.in1.in1.deeper cenv)) (set ds[i] (wipeS τ1 vs)) n1 elt fun y τ3 n3 => τ3 = set ds[i] (wipeS τ1 vs) ∧ n3 = n1 ∧ ∀ G v, Rv C.WK G v y → v = r) ∧ ∃ G10, C.As pv σ8 G10 H10 (set ds[i] (wipeS τ1 vs)) n1 ∧ Ex G3 G10) A8 fun b G10 H10 τ10 n10 A10 e10 ⟨et, en, h1, h2⟩ => by
          subst et en
          exact ⟨h1, h2, G10, A10, e10⟩
        have er : RT Xg cnd σ8 H3 (fun b H10 => (b = false → yl ds[i] = none) ∧ (b = true → ∃ r, yl ds[i] = some r ∧ EX (C.gen s4 H2 scope s4.heap.objs.size (cloFrom C.X.env.cells scope.names []) code fp [(a, go)] (C.X.A.in1.in1.deeper cenv)) (set ds[i] (wipeS τ1 vs)) n1 elt fun y τ3 n3 => τ3 = set ds[i] (wipeS τ1 vs) ∧ n3 = n1 ∧ ∀ G v, Rv C.WK G v y → v = r) ∧ ∃ G10, C.As pv σ8 G10 H10 (set ds[i] (wipeS τ1 vs)) n1 ∧ Ex G3 G10) := by
          rw [← hXg, ← hcE]
          rw [← hcE] at t2
          exact t2
        have e2 := er _ s8 I8
        rw [xP, xw, xE, xA] at e2
        refine seg_bind_wrap ?_
        rw [over_cl]
        simp only [List.forIn_cons, List.forIn_nil, if_true]
        refine wpAny_bind (wpAny_bind (wpAny_mono e2 (fun bb s9 h9 => ?_) fun e s z => (by rw [← hXg] at z; exact z.elim)))
        obtain ⟨H9, I9, hb0, hb1, G9, A9, e9⟩ := h9
        refine wpAny_pure (wpAny_pure ?_)
        cases bb with
        | true =>
          obtain ⟨r9, er9, tt⟩ := hb1 rfl
          simp only [if_true, hco]
          rw [Sem.bind_eq_wrap', Sem.bind_eq_wrap', Sem.wrap_wrap, Sem.wrap_wrap]
          refine seg_wrap ?_
          rw [over_cl]
          refine wpAny_mono (el s9 G9 H9 r9 I9 A9 e9 tt) (fun y s10 h10 => ?_) fun _ _ z => z.elim
          obtain ⟨rv9, q1, q2⟩ := h10
          rw [List.filterMap_cons_some er9, List.length_cons]
          rw [List.filterMap_cons_some er9, List.length_cons] at c0
          refine seg_at (seg_yield rfl rfl rfl ⟨((ds.take i).filterMap yl).length, r9, by omega, fm_get yl hlt er9, rv9, ⟨i + 1, hlt, by rw [fm_at yl hlt, er9]; simp, q1⟩, fun c hc => (q2 c hc).trans (hs0 c hc), fun s'' q3 => ?_⟩)
          exact seg_again rfl (yk r9 s10 er9 q1 s'' q3)
        | false =>
          have en9 := hb0 rfl
          simp only [Bool.false_eq_true, if_false]
          rw [List.filterMap_cons_none en9]
          obtain ⟨q1, q2⟩ := g9 s9 G9 H9 I9 A9 e9
          exact seg_again rfl (ih (i + 1) s0 s9 (by omega) hlt q1 fun c hc => (q2 c hc).trans (hs0 c hc))
      · simp at hl
  have g0i : GSi none 0 s5 := ⟨G1, H2, J5, A2, Ex.refl _, st, fun b hb => (ffp b hb).1.1, fun c z => nomatch z⟩
  have hst : ∀ {Z : Option Addr} {i : Nat} {s s' : Shared}, GSi Z i s → (∀ b o, s.heap.get? b = some o → s'.heap.get? b = some o) → s'.os = s.os → AllBare s'.gens → GSi Z i s' := fun {Z i s s'} ⟨G', H', J', A', e', t', f', hZ⟩ hk ho hb => by
    have hp : pinsOf Z s' = pinsOf Z s := by
      cases Z with
      | none => rfl
      | some c =>
        obtain ⟨o, e⟩ := (hZ c rfl).2.2.2
        simp only [pinsOf, e, hk c o e]
    exact ⟨G', H', by rw [hp]; exact J'.call' (ch := []) ho (Un.kept hk) (J'.hok.kept hk) hb (fun b z => absurd z (by simp)), A', e', T.keep _ _ _ t' fun b _ o q => hk b o q, f', fun c hc => ⟨(hZ c hc).1, (hZ c hc).2.1, (hZ c hc).2.2.1, let ⟨o, e⟩ := (hZ c hc).2.2.2; ⟨o, hk c o e⟩⟩⟩
  have hstF : ∀ {Z : Option Addr} {s s' : Shared}, GF Z s → (∀ b o, s.heap.get? b = some o → s'.heap.get? b = some o) → s'.os = s.os → AllBare s'.gens → GF Z s' := fun {Z s s'} ⟨G', H', J', A', e', hZ⟩ hk ho hb => by
    have hp : pinsOf Z s' = pinsOf Z s := by
      cases Z with
      | none => rfl
      | some c =>
        obtain ⟨o, e⟩ := (hZ c rfl).2.2
        simp only [pinsOf, e, hk c o e]
    exact ⟨G', H', by rw [hp]; exact J'.call' (ch := []) ho (Un.kept hk) (J'.hok.kept hk) hb (fun b z => absurd z (by simp)), A', e', fun c hc => ⟨(hZ c hc).1, (hZ c hc).2.1, let ⟨o, e⟩ := (hZ c hc).2.2; ⟨o, hk c o e⟩⟩⟩
  have FD := fd_of (P := C.X.prog) (w := C.X.w) (A := C.X.A.in1) (a := a) (g := g) (bs := ds.filterMap yl) (GS := GS) (GF := GF) hr.hd (by have := hr.dp; show C.X.A.depth < _; omega)
    (fun Z j s ⟨i, hi, hc, G', H', J', _⟩ => ⟨hgen _ (J'.pin (a, go) (List.mem_append_left _ (by rw [xpn]; simp))).1, J'.nolimit, J'.bare⟩)
    (fun Z j s gs ⟨i, hi, hc, g1⟩ hb => ⟨i, hi, hc, hst g1 (fun b o q => q) rfl (L2.allBare_setGen (let ⟨_, _, J', _⟩ := g1; J'.bare) hb)⟩)
    (fun Z s gs g1 hb => hstF g1 (fun b o q => q) rfl (L2.allBare_setGen (let ⟨_, _, J', _⟩ := g1; J'.bare) hb))
    (fun Z s h' g1 hk => hstF g1 hk rfl (let ⟨_, _, J', _⟩ := g1; J'.bare))
    (fun c j s o h' tk ⟨i, hi, hc, G', H', J', A', e', t', f', hZ⟩ k ho nd => by
      obtain ⟨z1, z2, z3, o1, ho1⟩ := hZ c rfl
      have ep : pinsOf (some c) s = [(c, o1)] := by simp only [pinsOf, ho1]
      rw [ep] at J'
      have J2 := repin (t' := tk) J' (by rw [xs0]; exact z3) (fun p hp q => by
        rw [xpn] at hp
        have hp := List.mem_singleton.mp hp
        rw [hp] at q
        exact z2 q.symm) k ho nd
      refine ⟨i, hi, hc, G', H', ?_, A', e', T.keep _ _ _ t' fun b hb o q => k b o (fun z => z1 (z ▸ hb)) q, f', fun c' hc' => by cases hc'; exact ⟨z1, z2, z3, o, ho⟩⟩
      have ep2 : pinsOf (some c) { s with heap := h', toks := tk } = [(c, o)] := by
        have ho' : ({ s with heap := h', toks := tk } : Shared).heap.get? c = some o := ho
        simp only [pinsOf, ho']
      rw [ep2]; exact J2)
    (fun c s o h' tk ⟨G', H', J', A', e', hZ⟩ k ho nd => by
      obtain ⟨z2, z3, o1, ho1⟩ := hZ c rfl
      have ep : pinsOf (some c) s = [(c, o1)] := by simp only [pinsOf, ho1]
      rw [ep] at J'
      have J2 := repin (t' := tk) J' (by rw [xs0]; exact z3) (fun p hp q => by
        rw [xpn] at hp
        have hp := List.mem_singleton.mp hp
        rw [hp] at q
        exact z2 q.symm) k ho nd
      refine ⟨G', H', ?_, A', e', fun c' hc' => by cases hc'; exact ⟨z2, z3, o, ho⟩⟩
      have ep2 : pinsOf (some c) { s with heap := h', toks := tk } = [(c, o)] := by
        have ho' : ({ s with heap := h', toks := tk } : Shared).heap.get? c = some o := ho
        simp only [pinsOf, ho']
      rw [ep2]; exact J2)
    (fun j s o tk ⟨i, hi, hc, G', H', J', A', e', t', f', hZ⟩ nd hf => by
      have J' : Inv Xg [] (wipe σ vs) H' s := J'
      have J2 := newpin (t' := tk) J' nd hf
      have hn := Heap.get?_push_size s.heap hf
      refine ⟨i, hi, hc, G', H', ?_, A', e', T.keep _ _ _ t' fun b hb o q => Heap.get?_push_of_some _ q, f', fun c' hc' => ?_⟩
      · have ep2 : pinsOf (some s.heap.objs.size) { s with heap := s.heap.push o, toks := tk } = [(s.heap.objs.size, o)] := by
          have ho' : ({ s with heap := s.heap.push o, toks := tk } : Shared).heap.get? s.heap.objs.size = some o := hn
          simp only [pinsOf, ho']
        rw [ep2]; exact J2
      · cases hc'
        refine ⟨fun hb => ?_, fun z => ?_, ?_, o, hn⟩
        · obtain ⟨ob, e, _⟩ := T.obj _ _ t' _ hb
          exact Nat.lt_irrefl _ (Heap.lt_size e)
        · have e := (J'.pin (a, go) (List.mem_append_left _ (by rw [xpn]; simp))).1
          have := Heap.lt_size e
          rw [z] at this
          exact Nat.lt_irrefl _ this
        · cases e : s4.heap.get? s.heap.objs.size with
          | none => rfl
          | some ob =>
            have h1 := Heap.lt_size e
            have h2 := J'.sz
            rw [xs0] at h2
            exact absurd (Nat.lt_of_lt_of_le h1 h2) (Nat.lt_irrefl _))
    (fun Z j s ⟨i, hi, hc, G', H', J', A', e', t', f', hZ⟩ => ⟨G', H', J', A', e', fun c hc => ⟨(hZ c hc).2.1, (hZ c hc).2.2.1, (hZ c hc).2.2.2⟩⟩)
    (fun c s ⟨G', H', J', A', e', hZ⟩ => (hZ c rfl).2.2) (fun c j s ⟨i, hi, hc, G', H', J', A', e', t', f', hZ⟩ => (hZ c rfl).2.2.2)
  refine Calls.spliced_nil ?_
  refine K.run C.X.A C.X.xe s5 a _ r _ _ _ hr.hd hp FD ⟨g, hgen _ (J5.pin (a, go) (List.mem_append_left _ (by rw [xpn]; simp))).1⟩ ⟨Nat.zero_le _, ⟨0, Nat.zero_le _, rfl, g0i⟩, _, gs5, fun S' _ s'' ⟨i2, hi2, hc2, g2⟩ => ?_⟩ fun Z s' v' ⟨G', H', J', A', e', _⟩ rv => ?_
  · have e : (ds.filterMap yl).length - 0 = ((ds.drop i2).filterMap yl).length := by have := hlen i2 hi2; omega
    have tn2 : tn i2 s''.heap := by obtain ⟨_, _, _, _, _, q, _⟩ := g2; exact q
    have loop := seg S' (ds.length - i2 + 1) i2 s'' s'' (by omega) hi2 g2 fun c hc => rfl
    rw [← e] at loop
    refine ⟨rfl, ?_⟩
    show Seg _ C.X.A.in1.in1 _ _ _ _ _ ((compStart (.GeneratorExp elt [⟨tg, iter, ifs, 0⟩] scope gpos) 0 (.ref it) .none cenv).onRaise (leaving cenv)) [] _
    unfold compStart
    rw [Sem.onRaise_eq_wrap]
    show Seg _ C.X.A.in1.in1 _ _ _ _ _ ((ask >>= _).wrap _ _ _ _) [] _
    refine seg_bind_wrap (wpAny_askSetting ?_)
    split
    · exact seg_again rfl loop
    · refine seg_bind_wrap (wpAny_rule ?_)
      show Seg _ C.X.A.in1.in1 _ _ _ _ _ ((standAt iter.pos >>= _).wrap _ _ _ _) [] _
      exact seg_bind_wrap (wpAny_standAt (seg_bind_wrap (T.self _ i2 _ _ _ tn2 (seg_again rfl loop))))
  · have I' : Inv C.X pins σ H' s' := I4.call' (ch := fp) ?_ ?_ (by have := J'.hok; rw [xP, xw] at this; exact this) J'.bare fun b hb => ?_
    · refine ⟨r, H', I', rv, ?_⟩
      exact kk _ x G' H' τ1 n1 A' (e1.trans e') (hrx _) fin
    · have := J'.os
      rw [← hXg] at this
      exact this
    · have := J'.base
      rw [← hXg] at this
      exact this
    · have f := (ffp b hb).1
      exact ⟨f.2.2.2.1, f.2.1, f.2.2.2.2.1, f.2.2.2.2.2⟩
end
end M

set_option Elab.async false
set_option linter.all false
set_option maxRecDepth 100000
set_option maxHeartbeats 4000000
namespace M
open PySem PySem.Spec PyProof.Rows L2
/-! min of what a generator gives -/
section
variable {prog : Program} {w : World} {A : Around} {R : Result → Shared → Prop} {E : Value → Shared → Prop} {s : Shared} {I : Addr} {bs : List V} {St : Option Addr → Nat → Shared → Prop} {GF : Option Addr → Shared → Prop}
/-- the least so far -/
def lst (a : Int) : List Int → Int
  | [] => a
  | b :: r => lst (if b < a then b else a) r
theorem wpAny_ltR {a b : Int} {t u : Tok} {Q : Value → Shared → Prop} (h : Q (.bool (decide (a < b))) s) : wpAny (model prog w) A (richCompare .Lt (.int a t) (.int b u)) Q E s :=
  show wpAny (model prog w) A (compareOp .Lt (.int a t) (.int b u)) Q E s from wpAny_lt_int h
theorem min_loopF (W : Fd prog w A.in1 I bs St GF) {ns : List Int} (hb : bs = ns.map V.int) (S : Addr) :
    ∀ (k i : Nat) (s : Shared) (m : Int) (t : Tok) (c : Nat), ns.length - i = k → i ≤ ns.length → St (some S) i s →
    s.heap.get? S = some { cls := .type "list", dict := none, data := .seq #[.int m t, .int m t] c, slots := #[] } →
    (∀ s' t', GF (some S) s' → R (.ok (.ret (.int (lst m (ns.drop i)) t'))) s') → codeAny (model prog w) A (.builtin "min.loop" ⟨[.ref I, .none, .ref S], []⟩) R s := by
  have hname : (toString "min" ++ toString ".loop" : String) = "min.loop" := by decide
  intro k
  induction k with
  | zero =>
    intro i s m t c hk hi hst hS hR
    have hin : i = ns.length := by omega
    subst hin
    refine codeAny_builtin F.entry_min_loop ?_
    rw [Around.under_plainId F.plain_min_loop _]
    show wpAny _ A.in1 (seqItems? (.ref S) >>= _) _ _ s
    refine wpAny_bind (wpAny_seqItems hS rfl ?_)
    show wpAny _ A.in1 (tryCatch (pyNext (.ref I)) _ >>= _) _ _ s
    refine wpAny_bind (wpAny_tryCatch (W.done (some S) s _ _ (by rw [hb, List.length_map]; exact hst) fun s' hm hS2 => ?_))
    have hS' := (hS2 S rfl).trans hS
    show wpAny _ A.in1 (updateSeq S (fun _ => #[]) >>= _) _ _ _
    refine wpAny_bind ?_
    refine wpAny_updateSeq hS' rfl (wpAny_bind (wpAny_letGo (wpAny_pure ?_)))
    rw [List.drop_length] at hR
    exact hR _ t (W.updF S s' _ _ _ hm (fun b u hb e => (Heap.get?_update_other _ _ (Ne.symm hb)).trans e) (Heap.get?_update_self _ hS' rfl) (fun v q => by cases q))
  | succ k ih =>
    intro i s m t c hk hi hst hS hR
    have hlt : i < ns.length := by omega
    have hbi : bs[i]? = some (V.int ns[i]) := by rw [hb, List.getElem?_map, List.getElem?_eq_getElem hlt]; rfl
    rw [List.drop_eq_getElem_cons hlt] at hR
    refine codeAny_builtin F.entry_min_loop ?_
    rw [Around.under_plainId F.plain_min_loop _]
    show wpAny _ A.in1 (seqItems? (.ref S) >>= _) _ _ s
    refine wpAny_bind (wpAny_seqItems hS rfl ?_)
    show wpAny _ A.in1 (tryCatch (pyNext (.ref I)) _ >>= _) _ _ s
    refine wpAny_bind (wpAny_tryCatch (W.item (some S) i s _ _ _ hbi hst fun v s' hP hst' hm => ?_))
    obtain ⟨t2, rfl⟩ := hP
    have hS' := (hm S rfl).trans hS
    show wpAny _ A.in1 (tryCatch (holding [Value.int ns[i] t2, Value.int ns[i] t2] (richCompare .Lt (Value.int ns[i] t2) (Value.int m t) >>= _)) _ >>= _) _ _ _
    refine wpAny_bind (wpAny_tryCatch (wpAny_holding (wpAny_bind (wpAny_ltR ?_))))
    refine wpAny_bind (wpAny_holding (wpAny_truthy_bool ?_))
    refine wpAny_bind (wpAny_letGo (wpAny_pure ?_))
    by_cases hlt2 : ns[i] < m
    · rw [decide_eq_true hlt2]
      simp only [if_true]
      refine wpAny_bind ?_
      refine wpAny_updateSeq hS' rfl (wpAny_bind (wpAny_letGo ?_))
      rw [hname]
      refine wpAny_pure ⟨plainId_quiet F.plain_min_loop _, ih (i + 1) _ ns[i] t2 _ (by omega) hlt (W.upd S (i + 1) s' _ _ _ hst' (fun b u hb e => (Heap.get?_update_other _ _ (Ne.symm hb)).trans e) (Heap.get?_update_self _ hS' rfl) (fun v q => by cases q)) (Heap.get?_update_self _ hS' rfl) fun s'' t' hm'' => ?_⟩
      have := hR s'' t' hm''
      rw [show lst m (ns[i] :: ns.drop (i + 1)) = lst ns[i] (ns.drop (i + 1)) by simp only [lst, if_pos hlt2]] at this
      exact this
    · rw [decide_eq_false hlt2]
      simp only [Bool.false_eq_true, if_false]
      refine wpAny_bind (wpAny_letGo ?_)
      rw [hname]
      refine wpAny_pure ⟨plainId_quiet F.plain_min_loop _, ih (i + 1) _ m t c (by omega) hlt hst' hS' fun s'' t' hm'' => ?_⟩
      have := hR s'' t' hm''
      rw [show lst m (ns[i] :: ns.drop (i + 1)) = lst m (ns.drop (i + 1)) by simp only [lst, if_neg hlt2]] at this
      exact this
theorem call_minF {a : Int} {ns : List Int} {Q : Value → Shared → Prop} (W : Fd prog w A.in1 I ((a :: ns).map V.int) St GF) (hg : ∃ g, s.heap.IsGen I g) (hst : St none 0 s)
    (hQ : ∀ S s' t', GF S s' → Q (.int (lst a ns) t') s') : wpAny (model prog w) A (call (.builtin "min") [.ref I]) Q E s := by
  obtain ⟨g, hg⟩ := hg
  have hname : (toString "min" ++ toString ".loop" : String) = "min.loop" := by decide
  refine call_function_tree F.kind_min F.plain_min F.entry_min (F.args_min1 _) ?_
  show wpAny _ A.in1 (Builtin.Builtins.bindParams "min" ["key", "default"] 0 ⟨[], []⟩ >>= _) _ _ s
  refine wpAny_bind (wpAny_of_eq (show Builtin.Builtins.bindParams "min" ["key", "default"] 0 ⟨[], []⟩ = pure [none, none] from rfl) ?_)
  refine wpAny_bind (wpAny_pure ?_)
  refine wpAny_bind (wpAny_pyIter_gen hg ?_)
  refine wpAny_bind (wpAny_newObj_type ?_)
  rw [hname]
  have st1 := W.new s { cls := .type "list", dict := none, data := .seq #[] 0, slots := #[] } s.toks hst (fun v q => by cases q) rfl
  refine wpAny_pure ⟨plainId_quiet F.plain_min_loop _, codeAny_builtin F.entry_min_loop ?_⟩
  rw [Around.under_plainId F.plain_min_loop _]
  show wpAny _ A.in1 (seqItems? (.ref s.heap.objs.size) >>= _) _ _ _
  refine wpAny_bind (wpAny_seqItems (Heap.get?_push_size _ rfl) rfl ?_)
  show wpAny _ A.in1 (tryCatch (pyNext (.ref I)) _ >>= _) _ _ _
  refine wpAny_bind (wpAny_tryCatch (W.item (some s.heap.objs.size) 0 _ (V.int a) _ _ rfl st1 fun v s' hP hst' hm => ?_))
  obtain ⟨t2, rfl⟩ := hP
  have hS' := (hm _ rfl).trans (Heap.get?_push_size _ rfl)
  show wpAny _ A.in1 (updateSeq s.heap.objs.size (fun _ => #[Value.int a t2, Value.int a t2]) >>= _) _ _ _
  refine wpAny_bind ?_
  refine wpAny_updateSeq hS' rfl ?_
  rw [hname]
  refine wpAny_pure ⟨plainId_quiet F.plain_min_loop _, min_loopF W rfl s.heap.objs.size _ 1 _ a t2 _ rfl (by simp) (W.upd s.heap.objs.size 1 s' _ _ _ hst' (fun b u hb e => (Heap.get?_update_other _ _ (Ne.symm hb)).trans e) (Heap.get?_update_self _ hS' rfl) (fun v q => by cases q)) (Heap.get?_update_self _ hS' rfl) fun s'' t' hm'' => ?_⟩
  exact hQ _ s'' t' hm''
end
/-! the consumers -/
def vInts : List V → Option (List Int)
  | [] => some []
  | .int i :: r => (vInts r).map (i :: ·)
  | _ :: _ => none
theorem vInts_of : ∀ {bs : List V} {ns : List Int}, vInts bs = some ns → bs = ns.map V.int
  | [], ns, h => by cases h; rfl
  | b :: r, ns, h => by
    cases b with
    | int i =>
      obtain ⟨m, h1, rfl⟩ := Option.map_eq_some_iff.mp (show (vInts r).map (i :: ·) = some ns from h)
      rw [vInts_of h1]; rfl
    | _ => cases h
theorem vInts_map : ∀ ns : List Int, vInts (ns.map V.int) = some ns
  | [] => rfl
  | n :: r => by
    show (vInts (r.map V.int)).map (n :: ·) = _
    rw [vInts_map r]; rfl
def vBls : List V → Option (List Bool)
  | [] => some []
  | .bl i :: r => (vBls r).map (i :: ·)
  | _ :: _ => none
theorem vBls_of : ∀ {bs : List V} {ks : List Bool}, vBls bs = some ks → bs = ks.map V.bl
  | [], ns, h => by cases h; rfl
  | b :: r, ns, h => by
    cases b with
    | bl i =>
      obtain ⟨m, h1, rfl⟩ := Option.map_eq_some_iff.mp (show (vBls r).map (i :: ·) = some ns from h)
      rw [vBls_of h1]; rfl
    | _ => cases h
theorem vBls_map : ∀ ns : List Bool, vBls (ns.map V.bl) = some ns
  | [] => rfl
  | n :: r => by
    show (vBls (r.map V.bl)).map (n :: ·) = _
    rw [vBls_map r]; rfl
def cSum (bs : List V) : Option V := (vInts bs).map fun ns => .int ns.sum
def cMin (bs : List V) : Option V := match vInts bs with
  | some (a :: ns) => some (.int (lst a ns))
  | _ => none
def cAll (bs : List V) : Option V := (vBls bs).map fun ks => .bl (ks.all id)
def cAny (bs : List V) : Option V := (vBls bs).map fun ks => .bl (ks.any id)
theorem csm_sum {prog : Program} {w : World} : Csm prog w "sum" cSum := ⟨fun A E s I bs r St GF Q hh hp W hg hst hQ => by
  obtain ⟨ns, h1, rfl⟩ := Option.map_eq_some_iff.mp hp
  have e := vInts_of h1
  subst e
  exact call_sumF W hg hst fun S s' t' q => hQ S s' _ q ⟨t', rfl⟩⟩
theorem csm_min {prog : Program} {w : World} : Csm prog w "min" cMin := ⟨fun A E s I bs r St GF Q hh hp W hg hst hQ => by
  unfold cMin at hp
  split at hp
  · rename_i a ns h1
    cases hp
    have e := vInts_of h1
    subst e
    exact call_minF W hg hst fun S s' t' q => hQ S s' _ q ⟨t', rfl⟩
  · cases hp⟩
theorem csm_all {prog : Program} {w : World} : Csm prog w "all" cAll := ⟨fun A E s I bs r St GF Q hh hp W hg hst hQ => by
  obtain ⟨ns, h1, rfl⟩ := Option.map_eq_some_iff.mp hp
  have e := vBls_of h1
  subst e
  exact call_allF W hg hst fun S s' q => hQ S s' _ q rfl⟩
theorem csm_any {prog : Program} {w : World} : Csm prog w "any" cAny := ⟨fun A E s I bs r St GF Q hh hp W hg hst hQ => by
  obtain ⟨ns, h1, rfl⟩ := Option.map_eq_some_iff.mp hp
  have e := vBls_of h1
  subst e
  exact call_anyF W hg hst fun S s' q => hQ S s' _ q rfl⟩
end M

set_option Elab.async false
set_option linter.all false
set_option maxRecDepth 100000
set_option maxHeartbeats 4000000
namespace M
open PySem PySem.Spec PyProof.Rows L2
/-! ### generators, unpacking, try: as functions -/
def vOf : Av → Option V
  | .d (.int i) => some (.int i)
  | .d (.bool b) => some (.bl b)
  | _ => none
def avOf : V → Option Av
  | .int i => some (aI i)
  | .bl b => some (aB b)
  | _ => none
theorem vOf_ok {x : Av} {v : V} (h : vOf x = some v) : ∀ (W : Wo) G u, Rv W G u x → u = v := by
  unfold vOf at h
  split at h
  · cases h; exact fun W G u r => r.int
  · cases h; exact fun W G u r => r.bool
  · cases h
theorem avOf_ok {x : Av} {v : V} (h : avOf v = some x) : ∀ (W : Wo) G, Rv W G v x := by
  unfold avOf at h
  split at h
  · cases h; exact fun W G => rv_int _
  · cases h; exact fun W G => rv_bool _
  · cases h
def genL (env : PyData → List Sl) (ok : PyData → Bool) (c : EvB) (t : Ev) : List PyData → Option (List V)
  | [] => some []
  | d :: r => if ok d = true then match okO (c (env d)) with
    | some true => match (okO (t (env d))).bind vOf with
      | some z => (genL env ok c t r).map (z :: ·)
      | none => none
    | some false => genL env ok c t r
    | none => none else none
def eGen (g : TgE) (it : EvD) (c : EvB) (t : Ev) (p : List V → Option V) : Ev := fun τ => bnd (it τ) fun ds => if noOwB τ g.vs = true then lif (((genL (fun d => g.set d (wipeS τ g.vs)) g.ok c t ds).bind p).bind avOf) else none
def ylOf (env : PyData → List Sl) (c : EvB) (t : Ev) (d : PyData) : Option V := match okO (c (env d)) with
  | some true => (okO (t (env d))).bind vOf
  | _ => none
theorem genL_of {env : PyData → List Sl} {ok : PyData → Bool} {c : EvB} {t : Ev} : ∀ {ds : List PyData} {bs : List V}, genL env ok c t ds = some bs → bs = ds.filterMap (ylOf env c t) ∧ ∀ d ∈ ds, ok d = true ∧ (okO (c (env d)) = some false ∨ okO (c (env d)) = some true ∧ ∃ v, (okO (t (env d))).bind vOf = some v)
  | [], bs, h => by cases h; exact ⟨rfl, fun d hd => absurd hd (by simp)⟩
  | d :: r, bs, h => by
    unfold genL at h
    split at h
    · rename_i hk
      split at h
      · rename_i hc
        split at h
        · rename_i z hz
          obtain ⟨m, h1, rfl⟩ := Option.map_eq_some_iff.mp h
          obtain ⟨e1, e2⟩ := genL_of h1
          have ey : ylOf env c t d = some z := by unfold ylOf; rw [hc]; exact hz
          refine ⟨by rw [List.filterMap_cons_some ey, e1], fun d' hd' => ?_⟩
          rcases List.mem_cons.mp hd' with rfl | hd'
          · exact ⟨hk, .inr ⟨hc, z, hz⟩⟩
          · exact e2 d' hd'
        · cases h
      · rename_i hc
        obtain ⟨e1, e2⟩ := genL_of h
        have ey : ylOf env c t d = none := by unfold ylOf; rw [hc]
        refine ⟨by rw [List.filterMap_cons_none ey, e1], fun d' hd' => ?_⟩
        rcases List.mem_cons.mp hd' with rfl | hd'
        · exact ⟨hk, .inl hc⟩
        · exact e2 d' hd'
      · cases h
    · cases h
section
variable {C : Cn} {xc : Str → Addr} {a b c e : Expr} {es : List Expr} {pos : Pos} {ta tb tc t u : Ev} {ts : EvL} {cc : EvB} {D : AE} {τ : List Sl} {n : Nat} {st : Stmt} {sts : List Stmt} {s s2 : EvS}
theorem snd_gen {id : String} {p : List V → Option V} {bz : Str} {cd P : Addr} {own : List (Str × Nat)} {k : Nat} {bp gpos : Pos} {scope : Scope} {tg elt iter : Expr} {ifs : List Expr} {Ok : PyData → Prop} {g : TgE} {it : EvD} (K : Csm C.X.prog C.X.w id p) (hr : Room (k + 4) C.X.A) (hz : Bl C.X bz) (hboot : bootBuiltins bz = some (.builtin id))
    (TB : GxR.TabB C.X.base C.X.mg cd P) (hPT : P ∈ C.W.T) (hcode : C.X.env.code = .ref cd) (hc : C.X.calm = true) (hN : C.X.N.Nodup) (ho : own.map (·.2) = g.vs)
    (ok : BlkOk C.X.N C.X.env.scope scope own) (S : GSd scope) (hl : ifs.length ≤ 1) (hset : SetOk g.vs g.set) (ht : ∀ s H cE cl code fp pn Aw, Tg (C.gen s H scope cE cl code fp pn Aw).X tg g.vs Ok g.set) (hok : ∀ d, g.ok d = true → Ok d) (hi : SndI C xc tg iter it)
    (hif : ∀ s H cE cl code fp pn Aw, Room k Aw → ∀ τ n Q, Pst (C.gen s H scope cE cl code fp pn Aw) xc (cc τ) τ n (fun x => Q x τ n) → ETs (C.gen s H scope cE cl code fp pn Aw) τ n ifs Q) (helt : ∀ s H cE cl code fp pn Aw, Room k Aw → Snd (C.gen s H scope cE cl code fp pn Aw) xc elt t)
    (hs : ∀ v, genFold iter C.X.env v = pure v := by intro _; rfl)
    (he : starEach [.GeneratorExp elt [⟨tg, iter, ifs, 0⟩] scope gpos] C.X.env = (false, eval (.GeneratorExp elt [⟨tg, iter, ifs, 0⟩] scope gpos) C.X.env) :: starEach [] C.X.env := by rfl) (hn : bz ≠ "__name__" := by decide) (hdb : (bz == ("__debug__" : Str)) = false := by decide) :
    Snd C xc (.Call (.Name bz bp) [.GeneratorExp elt [⟨tg, iter, ifs, 0⟩] scope gpos] [] pos) (eGen g it cc t p) := fun τ n Q hp =>
  ex_genC (own := own) (set := g.set) (Ok := Ok) K hr hz hboot TB hPT hcode hc hN ok S hl (by rw [ho]; exact hset) (by rw [ho]; exact ht) (hi τ n _ ((pst_bnd hp).imp fun ds q => by
    split at q
    · rename_i hcc
      obtain ⟨x, e, q⟩ := pst_lif q
      obtain ⟨r, e1, e2⟩ := Option.bind_eq_some_iff.mp e
      obtain ⟨bs, e3, e4⟩ := Option.bind_eq_some_iff.mp e1
      obtain ⟨f1, f2⟩ := genL_of e3
      rw [ho]
      refine ⟨noOw_of hcc, ylOf (fun d => g.set d (wipeS τ g.vs)) cc t, fun d hd => ?_, r, x, by rw [← f1]; exact e4, fun G => avOf_ok e2 _ G, q⟩
      obtain ⟨hk, h3⟩ := f2 d hd
      refine ⟨hok d hk, fun s H cE cl code fp pn Aw hrw => ?_⟩
      rcases h3 with h3 | ⟨h3, v, h4⟩
      · exact hif s H cE cl code fp pn Aw hrw _ _ _ (pst_okO h3 ⟨rfl, rfl, fun _ => by unfold ylOf; rw [h3], fun z => Bool.noConfusion z⟩)
      · refine hif s H cE cl code fp pn Aw hrw _ _ _ (pst_okO h3 ⟨rfl, rfl, fun z => Bool.noConfusion z, fun _ => ⟨v, by unfold ylOf; rw [h3]; exact h4, ?_⟩⟩)
        obtain ⟨y, y1, y2⟩ := Option.bind_eq_some_iff.mp h4
        exact helt s H cE cl code fp pn Aw hrw _ _ _ (pst_okO y1 ⟨rfl, rfl, fun G u r => vOf_ok y2 _ G u r⟩)
    · exact q.elim)) hs he hn hdb
/-! unpacking -/
def sUn (g : TgE) (t : Ev) : EvS := fun τ => sE (t τ) τ fun x => match x with
  | .d d => if g.ok d = true then some (.nx, g.set d τ) else none
  | _ => none
theorem sd_un {tg : Expr} {g : TgE} {Ok : PyData → Prop} (ht : Tg C.X tg g.vs Ok g.set) (hok : ∀ d, g.ok d = true → Ok d) (h : Snd C xc e t) (h1 : swapsWithSole [tg] e pos.line C.X.env = pure false) (h2 : swappedStores [tg] e C.X.env = pure none) (h3 : (assignEach [tg] C.X.env).map (·.2) = [assign tg C.X.env]) :
    SndS C xc (.Assign [tg] e pos) (sUn g t) := fun τ n D hp => by
  intro σ G H Dc A k
  have key : EX C τ n e fun x τ1 n1 => τ1 = τ ∧ n1 = n ∧ ∃ d, x = .d d ∧ Ok d ∧ D.nx (g.set d τ) n := h τ n _ ((pstS_E hp).imp fun x q => by
    split at q
    · split at q
      · rename_i d hk; exact ⟨rfl, rfl, d, rfl, hok d hk, q⟩
      · exact q.elim
    · exact q.elim)
  refine rs_of (ps_asg pe_re pg_rg h1 h2 h3) ?_
  refine key [] σ G H _ A fun v x G1 H1 τ1 n1 A1 e1 r1 ⟨et, en, d, ex, ok, q⟩ => ?_
  subst et en ex
  exact ht.run C.WK C.G0 C.H0 [] σ G1 H1 τ1 n1 v d _ rfl A1 r1 ok fun σ' A' _ _ => k.nx _ G1 _ _ n1 A' e1 q
theorem sd_par2 {i j : Nat} {z y : Str} {px py pt : Pos} {kt k2 : Nat} {pt2 : Pos} (hc : C.X.calm = true) (nd : C.X.N.Nodup) (hz : Lm C.X i z) (hy : Lm C.X j y) (hij : i ≠ j)
    (lz : C.X.env.scope.names.lookup z = some .local) (ly : C.X.env.scope.names.lookup y = some .local) (h : SndA C xc [a, b] ts)
    (hsw : swappedStores [.Tuple [.Name z px, .Name y py] kt pt] (.Tuple [a, b] k2 pt2) C.X.env = pure (some [z, y]))
    (hs : swapsWithSole [.Tuple [.Name z px, .Name y py] kt pt] (.Tuple [a, b] k2 pt2) pos.line C.X.env = pure false := by rfl) :
    SndS C xc (.Assign [.Tuple [.Name z px, .Name y py] kt pt] (.Tuple [a, b] k2 pt2) pos) (sPar2 i j ts) := fun τ n D hp =>
  sx_par2 (ok := nd) hc hz hy hij lz ly (h τ n _ ((pstS_E hp).imp fun xs q => by
    split at q
    · exact ⟨_, _, rfl, q⟩
    · exact q.elim)) hsw hs
theorem sd_par3 {i j l : Nat} {z y w : Str} {px py pz pt : Pos} {kt k2 : Nat} {pt2 : Pos} (hc : C.X.calm = true) (nd : C.X.N.Nodup) (hz : Lm C.X i z) (hy : Lm C.X j y) (hw : Lm C.X l w) (hij : i ≠ j) (hil : i ≠ l) (hjl : j ≠ l)
    (lz : C.X.env.scope.names.lookup z = some .local) (ly : C.X.env.scope.names.lookup y = some .local) (lw : C.X.env.scope.names.lookup w = some .local) (h : SndA C xc [a, b, c] ts)
    (hsw : swappedStores [.Tuple [.Name z px, .Name y py, .Name w pz] kt pt] (.Tuple [a, b, c] k2 pt2) C.X.env = pure (some [z, y, w]))
    (hs : swapsWithSole [.Tuple [.Name z px, .Name y py, .Name w pz] kt pt] (.Tuple [a, b, c] k2 pt2) pos.line C.X.env = pure false := by rfl) :
    SndS C xc (.Assign [.Tuple [.Name z px, .Name y py, .Name w pz] kt pt] (.Tuple [a, b, c] k2 pt2) pos) (sPar3 i j l ts) := fun τ n D hp =>
  sx_par3 (ok := nd) hc hz hy hw hij hil hjl lz ly lw (h τ n _ ((pstS_E hp).imp fun xs q => by
    split at q
    · exact ⟨_, _, _, rfl, q⟩
    · exact q.elim)) hsw hs
theorem sd_appPop {apos p cpos apos2 p2 cpos2 : Pos} {i l : Nat} {z y : Str} (hz : Nm C.X i z) (hy : Nm C.X l y) (h : Snd C xc e t)
    (hbase : attributeBase (.Name z p) "append" C.X.env (eval (.Name z p) C.X.env) = eval (.Name z p) C.X.env := by rfl) (hbase2 : attributeBase (.Name y p2) "pop" C.X.env (eval (.Name y p2) C.X.env) = eval (.Name y p2) C.X.env := by rfl)
    (hfew : ((backTo cpos (starEach [.Call (.Attribute (.Name y p2) "pop" apos2) [e] [] cpos2] C.X.env)).all (fun x => !x.1) && (backToKw cpos (keywordEach [] C.X.env)).all (fun x => x.1.isSome)
      && decide (([.Call (.Attribute (.Name y p2) "pop" apos2) [e] [] cpos2] : List Expr).length + ([] : List Keyword).length + (if ([] : List Keyword).isEmpty then 0 else 1) < 30)) = true := by rfl)
    (hfew2 : ((backTo cpos2 (starEach [e] C.X.env)).all (fun x => !x.1) && (backToKw cpos2 (keywordEach [] C.X.env)).all (fun x => x.1.isSome)
      && decide (([e] : List Expr).length + ([] : List Keyword).length + (if ([] : List Keyword).isEmpty then 0 else 1) < 30)) = true := by rfl)
    (hline : (apos.endLine == cpos.line) = true := by rfl) (hline2 : (apos2.endLine == cpos2.line) = true := by rfl) (hs : starEach [.Call (.Attribute (.Name y p2) "pop" apos2) [e] [] cpos2] C.X.env = (false, eval (.Call (.Attribute (.Name y p2) "pop" apos2) [e] [] cpos2) C.X.env) :: starEach [] C.X.env := by rfl)
    (hs2 : starEach [e] C.X.env = (false, eval e C.X.env) :: starEach [] C.X.env := by rfl)
    (hsw : swapsWith (.Call (.Attribute (.Name z p) "append" apos) [.Call (.Attribute (.Name y p2) "pop" apos2) [e] [] cpos2] [] cpos) none pos.line C.X.env = pure false := by rfl) :
    SndS C xc (.Expr (.Call (.Attribute (.Name z p) "append" apos) [.Call (.Attribute (.Name y p2) "pop" apos2) [e] [] cpos2] [] cpos) pos) (sAppPop i l t) := fun τ n D hp => by
  unfold sAppPop at hp
  split at hp
  · rename_i ds es hi hl
    refine sx_append hz hi (ex_popO hy hl (h τ n _ ((pstS_E hp).imp fun x q => ?_)) hbase2 hfew2 hline2 hs2) hbase hfew hline hs hsw
    split at q
    · rename_i j
      split at q
      · rename_i hb
        split at q
        · rename_i k hk
          split at q
          · rename_i d ds2 hd hds
            split at q
            · rename_i hlen
              exact ⟨es, j, k, d, hl, rfl, hb.1, hb.2, hk, hd, ds2, d, hds, rfl, hlen, q⟩
            · exact q.elim
          · exact q.elim
        · exact q.elim
      · exact q.elim
    · exact q.elim
  · exact hp.elim
theorem sd_setO {i : Nat} {z : Str} {p p2 : Pos} {idx : Expr} (hz : Nm C.X i z) (hx : Snd C xc idx u) (h : Snd C xc e t) (hs : swapsWithSole [.Subscript (.Name z p) idx p2] e pos.line C.X.env = pure false := by rfl) (hw : swappedStores [.Subscript (.Name z p) idx p2] e C.X.env = pure none := by rfl)
    (h1 : (assignEach [.Subscript (.Name z p) idx p2] C.X.env).map (·.2) = [assign (.Subscript (.Name z p) idx p2) C.X.env] := by rfl)
    (ha : ∀ v, assign (.Subscript (.Name z p) idx p2) C.X.env v = (do
      let ov ← holding [v] (eval (.Name z p) C.X.env)
      let iv ← holding [v, ov] (eval idx C.X.env)
      standAt p2
      holding [v, ov, iv] (setItem ov iv v)
      release [v, ov, iv] []) := by intro _; rfl) : SndS C xc (.Assign [.Subscript (.Name z p) idx p2] e pos) (sSetO i u t) := fun τ n D hp => by
  unfold sSetO at hp
  split at hp
  · rename_i ds hi
    refine sx_setO hz hi (h τ n _ ((pstS_E hp).imp fun x q => ?_)) hs hw h1 ha
    split at q
    · rename_i d
      refine ⟨d, rfl, hx τ n _ ((pstS_E q).imp fun y q => ?_)⟩
      split at q
      · split at q
        · rename_i m hm; exact ⟨ds, _, m, hi, rfl, hm, q⟩
        · exact q.elim
      · exact q.elim
    · exact q.elim
  · exact hp.elim
/-! what is not to come -/
theorem sd_no : SndS C xc st sNo := fun τ n D hp => hp.elim
theorem snd_no : Snd C xc e eNo := fun τ n Q hp => hp.elim
/-! exceptions -/
theorem noOw_s {τ : List Sl} (h : noOwS τ = true) : NoOw τ := fun i ds e => by
  have := List.all_eq_true.mp h _ (List.mem_of_getElem? e)
  cases this
theorem snd_isX {p p2 : Pos} {z : Str} {l : List Str} (hI : Bl C.X "isinstance") (K : Xk C.X.K C.X.mg xc l) (hz : z ∈ l) (hg : Gl C.X z) (hd : (z == ("__debug__" : Str)) = false) (h : Snd C xc e t)
    (he : starEach [e, .Name z p2] C.X.env = (false, eval e C.X.env) :: starEach [.Name z p2] C.X.env := by rfl)
    (he2 : starEach [.Name z p2] C.X.env = (false, eval (.Name z p2) C.X.env) :: starEach [] C.X.env := by rfl) (hpl : (backTo pos (starEach [.Name z p2] C.X.env)).any (·.1) = false := by rfl) :
    Snd C xc (.Call (.Name "isinstance" p) [e, .Name z p2] [] pos) (e1 (pIsX xc l z) t) := fun τ n Q hp => ex_isXc hI K hz hg hd (sE1 h hp fun x r e q => by
  unfold pIsX at e
  split at e
  · split at e
    · rename_i y hc; cases e; exact ⟨y, by rw [← hc.1], hc.2, q⟩
    · cases e
  · cases e) he he2 hpl
theorem snd_isVE {p p2 : Pos} {l : List Str} (hI : Bl C.X "isinstance") (hV : Bl C.X "ValueError") (K : Xk C.X.K C.X.mg xc l) (h : Snd C xc e t)
    (he : starEach [e, .Name "ValueError" p2] C.X.env = (false, eval e C.X.env) :: starEach [.Name "ValueError" p2] C.X.env := by rfl)
    (he2 : starEach [.Name "ValueError" p2] C.X.env = (false, eval (.Name "ValueError" p2) C.X.env) :: starEach [] C.X.env := by rfl) (hpl : (backTo pos (starEach [.Name "ValueError" p2] C.X.env)).any (·.1) = false := by rfl) :
    Snd C xc (.Call (.Name "isinstance" p) [e, .Name "ValueError" p2] [] pos) (e1 (pIsVE xc l) t) := fun τ n Q hp => ex_isVE hI hV K (sE1 h hp fun x r e q => by
  unfold pIsVE at e
  split at e
  · split at e
    · rename_i y hc; cases e; exact ⟨y, by rw [← hc.1], hc.2, q⟩
    · cases e
  · cases e) he he2 hpl
theorem sd_try {body : List Stmt} {i j : Nat} {nm y : Str} {np pos' py pn1 pa : Pos} {l : List Str} (fw : Fw C.X) (nd : C.X.N.Nodup) (tk : Takes C.X C.CW) (hi : Nm C.X i nm) (hln : C.X.env.scope.names.lookup nm = some .local) (hj : Lm C.X j y) (hfj : C.X.env.scope.names.lookup y = some .local)
    (K : Xk C.X.K C.X.mg xc l) (hF : Gl C.X "FolkError")
    (hb : ∀ G H pn xe E', Takes (C.tr G H pn xe E').X (C.tr G H pn xe E').CW → PassesOwn (model C.X.prog C.X.w) C.X.A C.X.env xe → SndSs (C.tr G H pn xe E') xc body s)
    (hij : i ≠ j := by decide) (hk : C.X.env.kindOf nm = some .local := by first | assumption | rfl) (hsw : swapsWith (.Name nm pn1) (some (.Name y py)) pa.line C.X.env = pure false := by rfl) :
    SndS C xc (.Try body [.ExceptHandler (some (.Name "FolkError" np)) (some nm) [.Assign [.Name y py] (.Name nm pn1) pa] pos'] [] [] pos) (sTry xc l i j s) := fun τ n D hp => by
  unfold sTry at hp
  split at hp
  · rename_i hno
    refine sx_tryK (c := .ref (xc "FolkError")) fw nd tk hi hln hj hfj ⟨hF, by decide, .inl K.fg⟩ (noOw_s hno) (fun G H pn xe => ?_) hij hk hsw
    intro E' tk' ow
    refine hb G H pn xe E' tk' ow τ n D ?_
    revert hp
    cases s τ with
    | none => exact fun h => h
    | some r =>
      obtain ⟨o, τ'⟩ := r
      cases o with
      | nx => exact fun h => h
      | rt x => exact fun h => h
      | bk => exact fun h => h
      | ct => exact fun h => h
      | ex z =>
        intro hp
        have hp : PstS C xc (if z ∈ l then some (.nx, ((τ'.set i (.st (.ex (xc z) z))).set j (.st (.ex (xc z) z))).set i .no) else none) n D := hp
        split at hp
        · rename_i hz
          exact ⟨true, z, K.fe z hz, fun _ => hp, fun e => Bool.noConfusion e⟩
        · exact hp.elim
  · exact hp.elim
end
end M

set_option Elab.async false
set_option linter.all false
set_option maxRecDepth 100000
set_option maxHeartbeats 4000000
namespace M
open PySem PySem.Spec PyProof.Rows L2
theorem gl_of {X : Cx} {sc : Scope} {x : Str} (h : X.env.scope = sc) (e : sc.names.lookup x = some .globalImplicit) : Gl X x := by
  subst h; exact e
theorem nm_of {X : Cx} {sc : Scope} {N : List Str} {i : Nat} {x : Str} (hN : X.N = N) (hS : X.env.scope = sc) (e : N[i]? = some x) (v : Vis sc x) (hd : (x == ("__debug__" : Str)) = false) (hc : (x == ("__classdict__" : Str)) = false) : Nm X i x := by
  subst hN hS; exact ⟨e, v, hd, hc⟩
theorem lm_of {X : Cx} {sc : Scope} {N : List Str} {i : Nat} {x : Str} (hN : X.N = N) (hS : X.env.scope = sc) (e : N[i]? = some x) (v : Loc sc x) (hf : X.fn x = true ∨ sc.names.lookup x = some .local) : Lm X i x := by
  subst hN hS; exact ⟨e, v, hf⟩
theorem ix_of {C : Cn} {N : List Str} {i : Nat} {x : Str} (hN : C.X.N = N) (e : N[i]? = some x) : Ix C i x := by
  subst hN; exact e
theorem clN_top {C : Cn} {z : Str} {asp : ASp} (c : ClN C z asp) (g : Gl C.X z) : Cl C z asp := let ⟨j, k, F, hr, hj, hd⟩ := c; ⟨j, k, F, hr, hj, g, hd⟩
theorem clN_blk2 {C : Cn} {s s2 : Shared} {H H2 : Hp} {scope scope2 : Scope} {cE cE2 : Addr} {cl cl2 : List (Str × Addr)} {fp fp2 : List Addr} {z : Str} {asp : ASp} (c : ClN C z asp) (g : Gl ((C.blk s H scope cE cl fp).blk s2 H2 scope2 cE2 cl2 fp2).X z) : Cl ((C.blk s H scope cE cl fp).blk s2 H2 scope2 cE2 cl2 fp2) z asp := let ⟨j, k, F, hr, hj, hd⟩ := c; ⟨j, k, F, hr, hj, g, hd⟩
theorem clN_tr {C : Cn} {G H : Hp} {pn : List (Addr × Obj)} {xe : Value → Shared → Prop} {E : Addr → List Sl → Nat → Prop} {z : Str} {asp : ASp} (c : ClN C z asp) (g : Gl C.X z) : Cl (C.tr G H pn xe E) z asp := let ⟨j, k, F, hr, hj, hd⟩ := c; ⟨j, k, F, hr, hj, g, hd⟩
theorem nm_tr {C : Cn} {G H : Hp} {pn : List (Addr × Obj)} {xe : Value → Shared → Prop} {E : Addr → List Sl → Nat → Prop} {i : Nat} {z : Str} (h : Nm C.X i z) : Nm (C.tr G H pn xe E).X i z := ⟨h.hN, h.hv, h.hd, h.hc⟩
theorem clN_trN {C : Cn} {G H : Hp} {pn : List (Addr × Obj)} {xe : Value → Shared → Prop} {E : Addr → List Sl → Nat → Prop} {z : Str} {asp : ASp} (c : ClN C z asp) : ClN (C.tr G H pn xe E) z asp := c
theorem gl_gen {C : Cn} {s : Shared} {H : Hp} {scope : Scope} {cE : Addr} {cl : List (Str × Addr)} {code : Value} {fp : List Addr} {pn : List (Addr × Obj)} {Aw : Around} {z : Str} {k kk : Nat} {asp : ASp} (F : FnG C.X.prog C.X.w C.X.K C.X.mg C.X.base C.W z k asp) (hr : Room kk Aw) (hk : k ≤ kk)
    (g : Gl (C.gen s H scope cE cl code fp pn Aw).X z) (hd : (z == ("__debug__" : Str)) = false) : Cl (C.gen s H scope cE cl code fp pn Aw) z asp := ⟨kk, k, F, hr, hk, g, hd⟩
theorem relS_of {C : Cn} {sc : Scope} {s : Shared} {H : Hp} {scope : Scope} {cE : Addr} {cl : List (Str × Addr)} {fp : List Addr} (h : C.X.env.scope = sc) : (C.blk s H scope cE cl fp).X.env.scope = relS scope sc := by
  subst h; rfl
abbrev LvB (scope : Scope) (z : Str) : Prop := ∀ sc, Loc (relS scope sc) z ∧ (relS scope sc).names.lookup z = some .local
abbrev LvG (scope : Scope) (z : Str) : Prop := scope.names.lookup z = some .local
section
variable {C : Cn} {xc : Str → Addr} {a b c e elt iter : Expr} {es : List Expr} {pos p1 p2 p3 : Pos} {ta tb tc t u : Ev} {ts : EvL} {cc : EvB} {it : EvD} {scope : Scope} {i j l : Nat} {z y w : Str} {kk : Nat}
theorem tgB1 (nd : C.X.N.Nodup) (hi : C.X.N[i]? = some z) (hv : LvB scope z) : ∀ (s : Shared) (H : Hp) (cE : Addr) (cl : List (Str × Addr)) (fp : List Addr), Tg (C.X.blk s H scope (compEnvC scope cl cE C.X.env) fp) (.Name z p1) (g1 i).vs (fun _ => True) (g1 i).set :=
  fun s H cE cl fp => tg_name (X := C.X.blk s H scope (compEnvC scope cl cE C.X.env) fp) nd ⟨hi, (hv C.X.env.scope).1, .inr (hv C.X.env.scope).2⟩
theorem tgB2 (hc : C.X.calm = true) (nd : C.X.N.Nodup) (hi : C.X.N[i]? = some z) (hj : C.X.N[j]? = some y) (hv : LvB scope z) (hw : LvB scope y) : ∀ (s : Shared) (H : Hp) (cE : Addr) (cl : List (Str × Addr)) (fp : List Addr), Tg (C.X.blk s H scope (compEnvC scope cl cE C.X.env) fp) (.Tuple [.Name z p1, .Name y p2] kk p3) (g2 i j).vs (fun d => ∃ d1 d2, d = .tuple [d1, d2]) (g2 i j).set :=
  fun s H cE cl fp => tg_tup2g (X := C.X.blk s H scope (compEnvC scope cl cE C.X.env) fp) hc nd ⟨hi, (hv C.X.env.scope).1, .inr (hv C.X.env.scope).2⟩ ⟨hj, (hw C.X.env.scope).1, .inr (hw C.X.env.scope).2⟩
theorem tgG1 (nd : C.X.N.Nodup) (hi : C.X.N[i]? = some z) (hv : LvG scope z) : ∀ s H cE cl code fp pn Aw, Tg (C.gen s H scope cE cl code fp pn Aw).X (.Name z p1) (g1 i).vs (fun _ => True) (g1 i).set :=
  fun s H cE cl code fp pn Aw => tg_name (X := (C.gen s H scope cE cl code fp pn Aw).X) nd ⟨hi, .inl hv, .inr hv⟩
theorem tgG2 (hc : C.X.calm = true) (nd : C.X.N.Nodup) (hi : C.X.N[i]? = some z) (hj : C.X.N[j]? = some y) (hv : LvG scope z) (hw : LvG scope y) : ∀ s H cE cl code fp pn Aw, Tg (C.gen s H scope cE cl code fp pn Aw).X (.Tuple [.Name z p1, .Name y p2] kk p3) (g2 i j).vs (fun d => ∃ d1 d2, d = .tuple [d1, d2]) (g2 i j).set :=
  fun s H cE cl code fp pn Aw => tg_tup2g (X := (C.gen s H scope cE cl code fp pn Aw).X) hc nd ⟨hi, .inl hv, .inr hv⟩ ⟨hj, .inl hw, .inr hw⟩
section
variable (hc : C.X.calm = true) (nd : C.X.N.Nodup) (hi : C.X.N[i]? = some z)
include hc nd hi
theorem snd_lc10 (ok : BlkOk C.X.N C.X.env.scope scope [(z, i)]) (hI : SndI C xc (.Name z p1) iter it) (he : ∀ s H cE cl fp, Snd (C.blk s H scope cE cl fp) xc elt t) (hv : LvB scope z) (hs : ∀ x, foldedSetIterable iter C.X.env x = pure x) :
    Snd C xc (.ListComp elt [⟨.Name z p1, iter, [], 0⟩] scope pos) (eLc (g1 i) it tYes t) :=
  snd_lc hc nd (by decide) rfl ok setOk_name (tgB1 nd hi hv) (fun _ _ => trivial) hI (fun s H cE cl fp => ifs0) he hs
theorem snd_lc11 (ok : BlkOk C.X.N C.X.env.scope scope [(z, i)]) (hI : SndI C xc (.Name z p1) iter it) (hf : ∀ s H cE cl fp, SndT (C.blk s H scope cE cl fp) xc c cc) (he : ∀ s H cE cl fp, Snd (C.blk s H scope cE cl fp) xc elt t) (hv : LvB scope z) (hs : ∀ x, foldedSetIterable iter C.X.env x = pure x) :
    Snd C xc (.ListComp elt [⟨.Name z p1, iter, [c], 0⟩] scope pos) (eLc (g1 i) it cc t) :=
  snd_lc hc nd (Nat.le_refl 1) rfl ok setOk_name (tgB1 nd hi hv) (fun _ _ => trivial) hI (fun s H cE cl fp => ifs1 (hf s H cE cl fp)) he hs
theorem snd_lc20 (hj : C.X.N[j]? = some y) (ok : BlkOk C.X.N C.X.env.scope scope [(z, i), (y, j)]) (hI : SndI C xc (.Tuple [.Name z p1, .Name y p2] kk p3) iter it) (he : ∀ s H cE cl fp, Snd (C.blk s H scope cE cl fp) xc elt t) (hv : LvB scope z) (hw : LvB scope y) (hs : ∀ x, foldedSetIterable iter C.X.env x = pure x) :
    Snd C xc (.ListComp elt [⟨.Tuple [.Name z p1, .Name y p2] kk p3, iter, [], 0⟩] scope pos) (eLc (g2 i j) it tYes t) :=
  snd_lc hc nd (by decide) rfl ok setOk_tup2 (tgB2 hc nd hi hj hv hw) (fun _ => is2_of) hI (fun s H cE cl fp => ifs0) he hs
theorem snd_lc21 (hj : C.X.N[j]? = some y) (ok : BlkOk C.X.N C.X.env.scope scope [(z, i), (y, j)]) (hI : SndI C xc (.Tuple [.Name z p1, .Name y p2] kk p3) iter it) (hf : ∀ s H cE cl fp, SndT (C.blk s H scope cE cl fp) xc c cc) (he : ∀ s H cE cl fp, Snd (C.blk s H scope cE cl fp) xc elt t) (hv : LvB scope z) (hw : LvB scope y) (hs : ∀ x, foldedSetIterable iter C.X.env x = pure x) :
    Snd C xc (.ListComp elt [⟨.Tuple [.Name z p1, .Name y p2] kk p3, iter, [c], 0⟩] scope pos) (eLc (g2 i j) it cc t) :=
  snd_lc hc nd (Nat.le_refl 1) rfl ok setOk_tup2 (tgB2 hc nd hi hj hv hw) (fun _ => is2_of) hI (fun s H cE cl fp => ifs1 (hf s H cE cl fp)) he hs
theorem snd_dc2 {kx vx : Expr} (hj : C.X.N[j]? = some y) (ok : BlkOk C.X.N C.X.env.scope scope [(z, i), (y, j)]) (hI : SndI C xc (.Tuple [.Name z p1, .Name y p2] kk p3) iter it) (he : ∀ s H cE cl fp, Snd (C.blk s H scope cE cl fp) xc kx t) (he2 : ∀ s H cE cl fp, Snd (C.blk s H scope cE cl fp) xc vx u) (hv : LvB scope z) (hw : LvB scope y) (hs : ∀ x, foldedSetIterable iter C.X.env x = pure x) :
    Snd C xc (.DictComp kx vx [⟨.Tuple [.Name z p1, .Name y p2] kk p3, iter, [], 0⟩] scope pos) (eDc (g2 i j) it t u) :=
  snd_dc hc nd rfl ok setOk_tup2 (tgB2 hc nd hi hj hv hw) (fun _ => is2_of) hI he he2 hs
variable {m : Nat} {q : Str} {py spos : Pos} (hm : C.X.N[m]? = some q) (hql : C.X.env.scope.names.lookup q = some .local)
include hm hql
theorem sd_asgLc10 (hsw : swapsWith (.ListComp elt [⟨.Name z p1, iter, [], 0⟩] scope pos) (some (.Name q py)) spos.line C.X.env = pure true) (ok : BlkOk C.X.N C.X.env.scope scope [(z, i)]) (hI : SndI C xc (.Name z p1) iter it) (he : ∀ s H cE cl fp, Snd (C.blk s H scope cE cl fp) xc elt t) (hv : LvB scope z) (hs : ∀ x, foldedSetIterable iter C.X.env x = pure x) :
    SndS C xc (.Assign [.Name q py] (.ListComp elt [⟨.Name z p1, iter, [], 0⟩] scope pos) spos) (sAsg m (eLc (g1 i) it tYes t)) :=
  sd_asgLc hc nd (by decide) hm hql hsw rfl ok setOk_name (tgB1 nd hi hv) (fun _ _ => trivial) hI (fun s H cE cl fp => ifs0) he hs
theorem sd_asgLc11 (hsw : swapsWith (.ListComp elt [⟨.Name z p1, iter, [c], 0⟩] scope pos) (some (.Name q py)) spos.line C.X.env = pure true) (ok : BlkOk C.X.N C.X.env.scope scope [(z, i)]) (hI : SndI C xc (.Name z p1) iter it) (hf : ∀ s H cE cl fp, SndT (C.blk s H scope cE cl fp) xc c cc) (he : ∀ s H cE cl fp, Snd (C.blk s H scope cE cl fp) xc elt t) (hv : LvB scope z) (hs : ∀ x, foldedSetIterable iter C.X.env x = pure x) :
    SndS C xc (.Assign [.Name q py] (.ListComp elt [⟨.Name z p1, iter, [c], 0⟩] scope pos) spos) (sAsg m (eLc (g1 i) it cc t)) :=
  sd_asgLc hc nd (Nat.le_refl 1) hm hql hsw rfl ok setOk_name (tgB1 nd hi hv) (fun _ _ => trivial) hI (fun s H cE cl fp => ifs1 (hf s H cE cl fp)) he hs
theorem sd_asgLc20 (hj : C.X.N[j]? = some y) (hsw : swapsWith (.ListComp elt [⟨.Tuple [.Name z p1, .Name y p2] kk p3, iter, [], 0⟩] scope pos) (some (.Name q py)) spos.line C.X.env = pure true) (ok : BlkOk C.X.N C.X.env.scope scope [(z, i), (y, j)]) (hI : SndI C xc (.Tuple [.Name z p1, .Name y p2] kk p3) iter it) (he : ∀ s H cE cl fp, Snd (C.blk s H scope cE cl fp) xc elt t) (hv : LvB scope z) (hw : LvB scope y) (hs : ∀ x, foldedSetIterable iter C.X.env x = pure x) :
    SndS C xc (.Assign [.Name q py] (.ListComp elt [⟨.Tuple [.Name z p1, .Name y p2] kk p3, iter, [], 0⟩] scope pos) spos) (sAsg m (eLc (g2 i j) it tYes t)) :=
  sd_asgLc hc nd (by decide) hm hql hsw rfl ok setOk_tup2 (tgB2 hc nd hi hj hv hw) (fun _ => is2_of) hI (fun s H cE cl fp => ifs0) he hs
theorem sd_asgLc21 (hj : C.X.N[j]? = some y) (hsw : swapsWith (.ListComp elt [⟨.Tuple [.Name z p1, .Name y p2] kk p3, iter, [c], 0⟩] scope pos) (some (.Name q py)) spos.line C.X.env = pure true) (ok : BlkOk C.X.N C.X.env.scope scope [(z, i), (y, j)]) (hI : SndI C xc (.Tuple [.Name z p1, .Name y p2] kk p3) iter it) (hf : ∀ s H cE cl fp, SndT (C.blk s H scope cE cl fp) xc c cc) (he : ∀ s H cE cl fp, Snd (C.blk s H scope cE cl fp) xc elt t) (hv : LvB scope z) (hw : LvB scope y) (hs : ∀ x, foldedSetIterable iter C.X.env x = pure x) :
    SndS C xc (.Assign [.Name q py] (.ListComp elt [⟨.Tuple [.Name z p1, .Name y p2] kk p3, iter, [c], 0⟩] scope pos) spos) (sAsg m (eLc (g2 i j) it cc t)) :=
  sd_asgLc hc nd (Nat.le_refl 1) hm hql hsw rfl ok setOk_tup2 (tgB2 hc nd hi hj hv hw) (fun _ => is2_of) hI (fun s H cE cl fp => ifs1 (hf s H cE cl fp)) he hs
end
/-! loops -/
variable {body : List Stmt} {s : EvS}
theorem sd_for1 (hp : PassesOwn (model C.X.prog C.X.w) C.X.A C.X.env C.X.xe) (hc : C.X.calm = true) (nd : C.X.N.Nodup) (hm : Lm C.X i z) (hI : SndI C xc (.Name z p1) iter it) (hb : SndSs C xc body s) (hs : ∀ x, foldedSetIterable iter C.X.env x = pure x) : SndS C xc (.For (.Name z p1) iter body [] pos) (sFor (g1 i) it s) :=
  sd_for hp hc (tg_name nd hm) (fun _ _ => trivial) hI hb hs
theorem sd_for2 (hp : PassesOwn (model C.X.prog C.X.w) C.X.A C.X.env C.X.xe) (hc : C.X.calm = true) (nd : C.X.N.Nodup) (hm : Lm C.X i z) (hm2 : Lm C.X j y) (hI : SndI C xc (.Tuple [.Name z p1, .Name y p2] kk p3) iter it) (hb : SndSs C xc body s) (hs : ∀ x, foldedSetIterable iter C.X.env x = pure x) : SndS C xc (.For (.Tuple [.Name z p1, .Name y p2] kk p3) iter body [] pos) (sFor (g2 i j) it s) :=
  sd_for hp hc (tg_tup2g hc nd hm hm2) (fun _ => is2_of) hI hb hs
theorem sd_un2 (hc : C.X.calm = true) (nd : C.X.N.Nodup) (hm : Lm C.X i z) (hm2 : Lm C.X j y) (h : Snd C xc e t) (h1 : swapsWithSole [.Tuple [.Name z p1, .Name y p2] kk p3] e pos.line C.X.env = pure false) (h2 : swappedStores [.Tuple [.Name z p1, .Name y p2] kk p3] e C.X.env = pure none) (h3 : (assignEach [.Tuple [.Name z p1, .Name y p2] kk p3] C.X.env).map (·.2) = [assign (.Tuple [.Name z p1, .Name y p2] kk p3) C.X.env]) :
    SndS C xc (.Assign [.Tuple [.Name z p1, .Name y p2] kk p3] e pos) (sUn (g2 i j) t) := sd_un (tg_tup2g hc nd hm hm2) (fun _ => is2_of) h h1 h2 h3
/-! generators -/
section
variable {id : String} {p : List V → Option V} {bz : Str} {cd P : Addr} {k : Nat} {bp gpos : Pos} (K : Csm C.X.prog C.X.w id p) (hr : Room (k + 4) C.X.A) (hz : Bl C.X bz) (hboot : bootBuiltins bz = some (.builtin id)) (TB : GxR.TabB C.X.base C.X.mg cd P) (hPT : P ∈ C.W.T) (hcode : C.X.env.code = .ref cd) (hc : C.X.calm = true) (nd : C.X.N.Nodup)
include K hr hz hboot TB hPT hcode hc nd
theorem snd_gen10 (hi : C.X.N[i]? = some z) (ok : BlkOk C.X.N C.X.env.scope scope [(z, i)]) (S : GSd scope) (hI : SndI C xc (.Name z p1) iter it) (he : ∀ s H cE cl code fp pn Aw, Room k Aw → Snd (C.gen s H scope cE cl code fp pn Aw) xc elt t) (hv : LvG scope z) (hs : ∀ v, genFold iter C.X.env v = pure v)
    (hst : starEach [.GeneratorExp elt [⟨.Name z p1, iter, [], 0⟩] scope gpos] C.X.env = (false, eval (.GeneratorExp elt [⟨.Name z p1, iter, [], 0⟩] scope gpos) C.X.env) :: starEach [] C.X.env) (hn : bz ≠ "__name__") (hdb : (bz == ("__debug__" : Str)) = false) :
    Snd C xc (.Call (.Name bz bp) [.GeneratorExp elt [⟨.Name z p1, iter, [], 0⟩] scope gpos] [] pos) (eGen (g1 i) it tYes t p) :=
  snd_gen K hr hz hboot TB hPT hcode hc nd rfl ok S (by decide) setOk_name (tgG1 nd hi hv) (fun _ _ => trivial) hI (fun s H cE cl code fp pn Aw _ => ifs0) he hs hst hn hdb
theorem snd_gen11 (hi : C.X.N[i]? = some z) (ok : BlkOk C.X.N C.X.env.scope scope [(z, i)]) (S : GSd scope) (hI : SndI C xc (.Name z p1) iter it) (hf : ∀ s H cE cl code fp pn Aw, Room k Aw → SndT (C.gen s H scope cE cl code fp pn Aw) xc c cc) (he : ∀ s H cE cl code fp pn Aw, Room k Aw → Snd (C.gen s H scope cE cl code fp pn Aw) xc elt t) (hv : LvG scope z) (hs : ∀ v, genFold iter C.X.env v = pure v)
    (hst : starEach [.GeneratorExp elt [⟨.Name z p1, iter, [c], 0⟩] scope gpos] C.X.env = (false, eval (.GeneratorExp elt [⟨.Name z p1, iter, [c], 0⟩] scope gpos) C.X.env) :: starEach [] C.X.env) (hn : bz ≠ "__name__") (hdb : (bz == ("__debug__" : Str)) = false) :
    Snd C xc (.Call (.Name bz bp) [.GeneratorExp elt [⟨.Name z p1, iter, [c], 0⟩] scope gpos] [] pos) (eGen (g1 i) it cc t p) :=
  snd_gen K hr hz hboot TB hPT hcode hc nd rfl ok S (Nat.le_refl 1) setOk_name (tgG1 nd hi hv) (fun _ _ => trivial) hI (fun s H cE cl code fp pn Aw h => ifs1 (hf s H cE cl code fp pn Aw h)) he hs hst hn hdb
theorem snd_gen20 (hi : C.X.N[i]? = some z) (hj : C.X.N[j]? = some y) (ok : BlkOk C.X.N C.X.env.scope scope [(z, i), (y, j)]) (S : GSd scope) (hI : SndI C xc (.Tuple [.Name z p1, .Name y p2] kk p3) iter it) (he : ∀ s H cE cl code fp pn Aw, Room k Aw → Snd (C.gen s H scope cE cl code fp pn Aw) xc elt t) (hv : LvG scope z) (hw : LvG scope y) (hs : ∀ v, genFold iter C.X.env v = pure v)
    (hst : starEach [.GeneratorExp elt [⟨.Tuple [.Name z p1, .Name y p2] kk p3, iter, [], 0⟩] scope gpos] C.X.env = (false, eval (.GeneratorExp elt [⟨.Tuple [.Name z p1, .Name y p2] kk p3, iter, [], 0⟩] scope gpos) C.X.env) :: starEach [] C.X.env) (hn : bz ≠ "__name__") (hdb : (bz == ("__debug__" : Str)) = false) :
    Snd C xc (.Call (.Name bz bp) [.GeneratorExp elt [⟨.Tuple [.Name z p1, .Name y p2] kk p3, iter, [], 0⟩] scope gpos] [] pos) (eGen (g2 i j) it tYes t p) :=
  snd_gen K hr hz hboot TB hPT hcode hc nd rfl ok S (by decide) setOk_tup2 (tgG2 hc nd hi hj hv hw) (fun _ => is2_of) hI (fun s H cE cl code fp pn Aw _ => ifs0) he hs hst hn hdb
theorem snd_gen21 (hi : C.X.N[i]? = some z) (hj : C.X.N[j]? = some y) (ok : BlkOk C.X.N C.X.env.scope scope [(z, i), (y, j)]) (S : GSd scope) (hI : SndI C xc (.Tuple [.Name z p1, .Name y p2] kk p3) iter it) (hf : ∀ s H cE cl code fp pn Aw, Room k Aw → SndT (C.gen s H scope cE cl code fp pn Aw) xc c cc) (he : ∀ s H cE cl code fp pn Aw, Room k Aw → Snd (C.gen s H scope cE cl code fp pn Aw) xc elt t) (hv : LvG scope z) (hw : LvG scope y) (hs : ∀ v, genFold iter C.X.env v = pure v)
    (hst : starEach [.GeneratorExp elt [⟨.Tuple [.Name z p1, .Name y p2] kk p3, iter, [c], 0⟩] scope gpos] C.X.env = (false, eval (.GeneratorExp elt [⟨.Tuple [.Name z p1, .Name y p2] kk p3, iter, [c], 0⟩] scope gpos) C.X.env) :: starEach [] C.X.env) (hn : bz ≠ "__name__") (hdb : (bz == ("__debug__" : Str)) = false) :
    Snd C xc (.Call (.Name bz bp) [.GeneratorExp elt [⟨.Tuple [.Name z p1, .Name y p2] kk p3, iter, [c], 0⟩] scope gpos] [] pos) (eGen (g2 i j) it cc t p) :=
  snd_gen K hr hz hboot TB hPT hcode hc nd rfl ok S (Nat.le_refl 1) setOk_tup2 (tgG2 hc nd hi hj hv hw) (fun _ => is2_of) hI (fun s H cE cl code fp pn Aw h => ifs1 (hf s H cE cl code fp pn Aw h)) he hs hst hn hdb
end
end
/-! the law as a def of its script -/
theorem law_asp {xc : Str → Addr} {f : List Av → Rs Av} (h : ∀ ns : List Int, (∀ z ∈ ns, Builtin.Int.intBits z ≤ 1048576) → f [.sc ns] = some (.ok (aB true))) {P : Program} {w : World} {K : PySem.W.Frag} {mg : Str → Option Value} {base : Heap} {k : Nat} {fa : Addr} {fd : FuncData} {ps : List Str} {W : Wo}
    (F : FnOk P w K mg base (CX P w) k fa fd ps (spOf W (aspT xc f))) : FnOk P w K mg base (CX P w) k fa fd ps (spOf W aspLw) := F.imp fun vs H Q E ⟨G, xs, n, R, RE, h1, h2, h3, ⟨ns, e, hb, hq⟩, h5⟩ => ⟨G, xs, n, R, RE, h1, h2, h3, by
  unfold aspT
  rw [e, h ns hb]
  exact hq n, h5⟩
end M

set_option Elab.async false
set_option linter.all false
set_option maxRecDepth 100000
set_option maxHeartbeats 4000000
namespace KX
open PySem PySem.Spec PyProof.Rows L2 M

abbrev xl : List Str := ["NoRanking", "NoFolk", "NoNames", "NoFit", "NoLine", "NoNumber", "NoTree", "NoPaper", "NoText", "NoTitle", "NoRow", "NoBack", "TooGreat", "NoWeights", "NoFall", "NoTops", "NoFixed", "NoHand", "NoRule"]
end KX

set_option Elab.async false
set_option linter.all false
set_option maxRecDepth 100000
set_option maxHeartbeats 0
namespace KX
open PySem PySem.Spec PyProof.Rows L2 M
def top (i : Nat) : Stmt := PySem.Challenge.pw_ontheline_k50_margins.main.body.getD i (.Pass ⟨0, 0, 0, 0⟩)
abbrev sis_whole : Stmt := top 24
def dis_whole : He.DefD := ⟨("is_whole", none), "is_whole", "is_whole", defArgs sis_whole, defBody sis_whole, defScope sis_whole, [], []⟩
abbrev sis_name : Stmt := top 25
def dis_name : He.DefD := ⟨("is_name", none), "is_name", "is_name", defArgs sis_name, defBody sis_name, defScope sis_name, [], []⟩
abbrev sis_ranking : Stmt := top 26
def dis_ranking : He.DefD := ⟨("is_ranking", none), "is_ranking", "is_ranking", defArgs sis_ranking, defBody sis_ranking, defScope sis_ranking, [], []⟩
abbrev sis_folk : Stmt := top 27
def dis_folk : He.DefD := ⟨("is_folk", none), "is_folk", "is_folk", defArgs sis_folk, defBody sis_folk, defScope sis_folk, [], []⟩
abbrev shave_same_names : Stmt := top 28
def dhave_same_names : He.DefD := ⟨("have_same_names", none), "have_same_names", "have_same_names", defArgs shave_same_names, defBody shave_same_names, defScope shave_same_names, [], []⟩
abbrev sare_names_of : Stmt := top 29
def dare_names_of : He.DefD := ⟨("are_names_of", none), "are_names_of", "are_names_of", defArgs sare_names_of, defBody sare_names_of, defScope sare_names_of, [], []⟩
abbrev sare_two_names : Stmt := top 30
def dare_two_names : He.DefD := ⟨("are_two_names", none), "are_two_names", "are_two_names", defArgs sare_two_names, defBody sare_two_names, defScope sare_two_names, [], []⟩
abbrev scheck_folk : Stmt := top 31
def dcheck_folk : He.DefD := ⟨("check_folk", none), "check_folk", "check_folk", defArgs scheck_folk, defBody scheck_folk, defScope scheck_folk, [], []⟩
abbrev sis_ahead : Stmt := top 32
def dis_ahead : He.DefD := ⟨("is_ahead", none), "is_ahead", "is_ahead", defArgs sis_ahead, defBody sis_ahead, defScope sis_ahead, [], []⟩
abbrev sare_weights : Stmt := top 34
def dare_weights : He.DefD := ⟨("are_weights", none), "are_weights", "are_weights", defArgs sare_weights, defBody sare_weights, defScope sare_weights, [], []⟩
abbrev scheck_weights : Stmt := top 35
def dcheck_weights : He.DefD := ⟨("check_weights", none), "check_weights", "check_weights", defArgs scheck_weights, defBody scheck_weights, defScope scheck_weights, [], []⟩
abbrev scount_margin : Stmt := top 36
def dcount_margin : He.DefD := ⟨("count_margin", none), "count_margin", "count_margin", defArgs scount_margin, defBody scount_margin, defScope scount_margin, [], []⟩
abbrev smargin : Stmt := top 37
def dmargin : He.DefD := ⟨("margin", none), "margin", "margin", defArgs smargin, defBody smargin, defScope smargin, [], []⟩
abbrev s_law_whole : Stmt := top 39
def d_law_whole : He.DefD := ⟨("_law_whole", none), "_law_whole", "_law_whole", defArgs s_law_whole, defBody s_law_whole, defScope s_law_whole, [], []⟩
abbrev s_law_draws : Stmt := top 40
def d_law_draws : He.DefD := ⟨("_law_draws", none), "_law_draws", "_law_draws", defArgs s_law_draws, defBody s_law_draws, defScope s_law_draws, [], []⟩
abbrev s_law_names : Stmt := top 41
def d_law_names : He.DefD := ⟨("_law_names", none), "_law_names", "_law_names", defArgs s_law_names, defBody s_law_names, defScope s_law_names, [], []⟩
abbrev s_law_shuffled : Stmt := top 42
def d_law_shuffled : He.DefD := ⟨("_law_shuffled", none), "_law_shuffled", "_law_shuffled", defArgs s_law_shuffled, defBody s_law_shuffled, defScope s_law_shuffled, [], []⟩
abbrev s_law_fallen : Stmt := top 43
def d_law_fallen : He.DefD := ⟨("_law_fallen", none), "_law_fallen", "_law_fallen", defArgs s_law_fallen, defBody s_law_fallen, defScope s_law_fallen, [], []⟩
abbrev s_law_line : Stmt := top 44
def d_law_line : He.DefD := ⟨("_law_line", none), "_law_line", "_law_line", defArgs s_law_line, defBody s_law_line, defScope s_law_line, [], []⟩
abbrev s_law_folk : Stmt := top 45
def d_law_folk : He.DefD := ⟨("_law_folk", none), "_law_folk", "_law_folk", defArgs s_law_folk, defBody s_law_folk, defScope s_law_folk, [], []⟩
abbrev s_law_weights : Stmt := top 46
def d_law_weights : He.DefD := ⟨("_law_weights", none), "_law_weights", "_law_weights", defArgs s_law_weights, defBody s_law_weights, defScope s_law_weights, [], []⟩
abbrev s_law_lead : Stmt := top 47
def d_law_lead : He.DefD := ⟨("_law_lead", none), "_law_lead", "_law_lead", defArgs s_law_lead, defBody s_law_lead, defScope s_law_lead, [], []⟩
abbrev s_law_copied : Stmt := top 48
def d_law_copied : He.DefD := ⟨("_law_copied", none), "_law_copied", "_law_copied", defArgs s_law_copied, defBody s_law_copied, defScope s_law_copied, [], []⟩
abbrev s_law_names_of : Stmt := top 49
def d_law_names_of : He.DefD := ⟨("_law_names_of", none), "_law_names_of", "_law_names_of", defArgs s_law_names_of, defBody s_law_names_of, defScope s_law_names_of, [], []⟩
abbrev s_law_refused : Stmt := top 50
def d_law_refused : He.DefD := ⟨("_law_refused", none), "_law_refused", "_law_refused", defArgs s_law_refused, defBody s_law_refused, defScope s_law_refused, [], []⟩
abbrev slaw : Stmt := top 51
def dlaw : He.DefD := ⟨("law", none), "law", "law", defArgs slaw, defBody slaw, defScope slaw, [], []⟩
def fn : List He.DefD := ([dis_whole, dis_name, dis_ranking, dis_folk, dhave_same_names, dare_names_of, dare_two_names, dcheck_folk, dis_ahead, dare_weights, dcheck_weights, dcount_margin, dmargin, d_law_whole, d_law_draws] : List He.DefD) ++ ([d_law_names, d_law_shuffled, d_law_fallen, d_law_line, d_law_folk, d_law_weights, d_law_lead, d_law_copied, d_law_names_of, d_law_refused, dlaw] : List He.DefD)
def fa : List He.Fa := ([.glo "is_whole", .glo "is_name", .glo "is_ranking", .glo "is_folk", .glo "have_same_names", .glo "are_names_of", .glo "are_two_names", .glo "check_folk", .glo "is_ahead", .glo "are_weights", .glo "check_weights", .glo "count_margin", .glo "margin", .glo "_law_whole", .glo "_law_draws"] : List He.Fa) ++ ([.glo "_law_names", .glo "_law_shuffled", .glo "_law_fallen", .glo "_law_line", .glo "_law_folk", .glo "_law_weights", .glo "_law_lead", .glo "_law_copied", .glo "_law_names_of", .glo "_law_refused", .glo "law", .free "len", .free "isinstance", .free "int", .free "bool"] : List He.Fa) ++ ([.free "list", .free "range", .free "sorted", .free "set", .free "all", .free "max", .free "min", .free "tuple", .free "sum", .free "zip", .free "ValueError", .int "MOST_NAMES" 10, .int "MOST_HANDS" 20, .glo "FolkError", .glo "NoRanking"] : List He.Fa) ++ ([.glo "NoFolk", .glo "NoNames", .glo "NoFit", .glo "NoLine", .glo "NoNumber", .glo "NoTree", .glo "NoPaper", .glo "NoText", .glo "NoTitle", .glo "NoRow", .glo "NoBack", .glo "TooGreat", .glo "NoWeights", .glo "NoFall", .glo "NoTops"] : List He.Fa) ++ ([.glo "NoFixed", .glo "NoHand", .glo "NoRule", .exc "FolkError", .exc "NoRanking", .exc "NoFolk", .exc "NoNames", .exc "NoFit", .exc "NoLine", .exc "NoNumber", .exc "NoTree", .exc "NoPaper", .exc "NoTitle", .exc "NoRow", .exc "NoBack"] : List He.Fa) ++ ([.exc "TooGreat", .exc "NoWeights", .exc "NoTops", .exc "NoFixed", .exc "NoHand", .exc "NoRule"] : List He.Fa)
def tf : List He.Defn := [("is_ranking", none), ("is_folk", none), ("are_names_of", none), ("are_weights", none), ("count_margin", none)]
abbrev R : PySem.W.OpenRow := PySem.W.OpenLaw.row PySem.Challenge.rw_ontheline_k50_margins
abbrev hk : PySem.W.Hook := He.hookX 6 fa fn [] tf (fun K => xkB K xl)
def ob (s : PySem.W.SharedT) : He.AlX := He.obsX 6 fa fn [] tf (fun K => xkB K xl) (HandSHeadRun.getT s)
theorem ob_eq (s : PySem.W.SharedT) : ob s = hk.obs s.abs := He.obsX_eq (HandSHeadRun.getT_eq s)
def loose : List Str := (["is_whole", "is_name", "is_ranking", "is_folk", "have_same_names", "are_names_of", "are_two_names", "check_folk", "is_ahead", "are_weights", "check_weights", "count_margin", "margin", "_law_whole", "_law_draws"] : List Str) ++ (["_law_names", "_law_shuffled", "_law_fallen", "_law_line", "_law_folk", "_law_weights", "_law_lead", "_law_copied", "_law_names_of", "_law_refused", "FolkError", "NoRanking", "NoFolk", "NoNames", "NoFit"] : List Str) ++ (["NoLine", "NoNumber", "NoTree", "NoPaper", "NoText", "NoTitle", "NoRow", "NoBack", "TooGreat", "NoWeights", "NoFall", "NoTops", "NoFixed", "NoHand", "NoRule"] : List Str) ++ (["MOST_NAMES", "MOST_HANDS"] : List Str)
theorem run (w : World) : HandSHeadRun.RunEq R (PySem.W.view R.prog [51]) hk ob 12000 loose w := by
  intro os
  kernel_rfl
end KX

set_option Elab.async false
set_option linter.all false
set_option maxRecDepth 100000
set_option maxHeartbeats 4000000
namespace KX
open PySem PySem.Spec PyProof.Rows L2 M

section
variable (xc : Str → Addr)
noncomputable def t_is_whole : EvS := (sSeq (sRet (vAnd (e1 (pIsi "int") (eVar 0)) (e1 (fun x => (asB x).map fun b => aB (!b)) (e1 (pIsi "bool") (eVar 0))))) sNil)
noncomputable def f_is_whole (xs : List Av) : Rs Av := runF 1 0 t_is_whole xs
noncomputable def t_is_name : EvS := (sSeq (sRet (vAnd (eCall f_is_whole (aCons (eVar 0) aNil)) (e2 (pB cGe) (eVar 0) (eC (aI 0))))) sNil)
noncomputable def f_is_name (xs : List Av) : Rs Av := runF 1 0 t_is_name xs
noncomputable def t_is_ranking : EvS := (sSeq (sIf (tOr (tNot (b1 asB (e1 (pIsi "list") (eVar 0)))) (tNot (bChLe (eC (aI 1)) (eF fLen (aCons (eVar 0) aNil)) (eC (aI 10))))) (sSeq (sRet (eC (aB false))) sNil) sNil) (sSeq (sRet (vAnd (eGen (g1 1) (iL (eVar 0)) tYes (eCall f_is_name (aCons (eVar 1) aNil)) cAll) (e2 (pB cEq) (e1 pLenSet (eVar 0)) (eF fLen (aCons (eVar 0) aNil))))) sNil))
noncomputable def f_is_ranking (xs : List Av) : Rs Av := runF 1 1 t_is_ranking xs
noncomputable def t_have_same_names : EvS := (sSeq (sRet (e2 (pB cEq) (eF fSorted (aCons (eVar 0) aNil)) (eF fSorted (aCons (eVar 1) aNil)))) sNil)
noncomputable def f_have_same_names (xs : List Av) : Rs Av := runF 2 0 t_have_same_names xs
noncomputable def t_is_folk : EvS := (sSeq (sIf (tOr (tNot (b1 asB (e1 (pIsi "list") (eVar 0)))) (tNot (bChLe (eC (aI 1)) (eF fLen (aCons (eVar 0) aNil)) (eC (aI 20))))) (sSeq (sRet (eC (aB false))) sNil) sNil) (sSeq (sIf (tNot (b1 asB (eGen (g1 1) (iL (eVar 0)) tYes (eCall f_is_ranking (aCons (eVar 1) aNil)) cAll))) (sSeq (sRet (eC (aB false))) sNil) sNil) (sSeq (sRet (eGen (g1 1) (iL (eVar 0)) tYes (eCall f_have_same_names (aCons (eVar 1) (aCons (e2 pIx (eVar 0) (eC (aI 0))) aNil))) cAll)) sNil)))
noncomputable def f_is_folk (xs : List Av) : Rs Av := runF 1 1 t_is_folk xs
noncomputable def t_are_names_of : EvS := (sSeq (sRet (eGen (g1 2) (iL (eVar 1)) tYes (vAnd (eCall f_is_whole (aCons (eVar 2) aNil)) (e2 (pB cIn) (eVar 2) (eVar 0))) cAll)) sNil)
noncomputable def f_are_names_of (xs : List Av) : Rs Av := runF 2 1 t_are_names_of xs
noncomputable def t_are_two_names : EvS := (sSeq (sRet (vAnd (e2 (pB cNe) (eVar 1) (eVar 2)) (eCall f_are_names_of (aCons (eVar 0) (aCons (eF fLst (aCons (eVar 1) (aCons (eVar 2) aNil))) aNil))))) sNil)
noncomputable def f_are_two_names (xs : List Av) : Rs Av := runF 3 0 t_are_two_names xs
noncomputable def t_check_folk : EvS := (sSeq (sIf (tNot (b1 asB (eCall f_is_folk (aCons (eVar 0) aNil)))) (sSeq (sRaise "NoFolk") sNil) sNil) sNil)
noncomputable def f_check_folk (xs : List Av) : Rs Av := runF 1 0 t_check_folk xs
noncomputable def t_is_ahead : EvS := (sSeq (sRet (e2 (pB cLt) (eIndex (eVar 0) (eVar 1)) (eIndex (eVar 0) (eVar 2)))) sNil)
noncomputable def f_is_ahead (xs : List Av) : Rs Av := runF 3 0 t_is_ahead xs
noncomputable def t_are_weights : EvS := (sSeq (sIf (tOr (tNot (b1 asB (e1 (pIsi "list") (eVar 0)))) (b2 cNe (eF fLen (aCons (eVar 0) aNil)) (eVar 1))) (sSeq (sRet (eC (aB false))) sNil) sNil) (sSeq (sRet (eGen (g1 2) (iL (eVar 0)) tYes (vAnd (eCall f_is_whole (aCons (eVar 2) aNil)) (e2 (pB cGe) (eVar 2) (eC (aI 1)))) cAll)) sNil))
noncomputable def f_are_weights (xs : List Av) : Rs Av := runF 2 1 t_are_weights xs
noncomputable def t_check_weights : EvS := (sSeq (sExpr (eCall f_check_folk (aCons (eVar 0) aNil))) (sSeq (sIf (tNot (b1 asB (eCall f_are_weights (aCons (eVar 1) (aCons (eF fLen (aCons (eVar 0) aNil)) aNil))))) (sSeq (sRaise "NoWeights") sNil) sNil) sNil))
noncomputable def f_check_weights (xs : List Av) : Rs Av := runF 2 0 t_check_weights xs
noncomputable def t_count_margin : EvS := (sSeq (sRet (eGen (g2 4 5) (iZip (eVar 0) (eVar 1)) tYes (eIf (b1 asB (eCall f_is_ahead (aCons (eVar 4) (aCons (eVar 2) (aCons (eVar 3) aNil))))) (eVar 5) (e1 pNeg (eVar 5))) cSum)) sNil)
noncomputable def f_count_margin (xs : List Av) : Rs Av := runF 4 2 t_count_margin xs
noncomputable def t_margin : EvS := (sSeq (sExpr (eCall f_check_weights (aCons (eVar 0) (aCons (eVar 1) aNil)))) (sSeq (sIf (tNot (b1 asB (eCall f_are_two_names (aCons (e2 pIx (eVar 0) (eC (aI 0))) (aCons (eVar 2) (aCons (eVar 3) aNil)))))) (sSeq (sRaise "NoNames") sNil) sNil) (sSeq (sRet (eCall f_count_margin (aCons (eVar 0) (aCons (eVar 1) (aCons (eVar 2) (aCons (eVar 3) aNil)))))) sNil)))
noncomputable def f_margin (xs : List Av) : Rs Av := runF 4 0 t_margin xs
noncomputable def t__law_whole : EvS := (sSeq (sRet (vAnd (e1 (pIsi "int") (eVar 0)) (e1 (fun x => (asB x).map fun b => aB (!b)) (e1 (pIsi "bool") (eVar 0))))) sNil)
noncomputable def f__law_whole (xs : List Av) : Rs Av := runF 1 0 t__law_whole xs
noncomputable def t__law_draws : EvS := (sSeq (sAsg 3 (eC (aI 0))) (sSeq (sIf (b2 cGt (eF fLen (aCons (eVar 0) aNil)) (eC (aI 0))) (sSeq (sAsg 3 (e2 pIx (eVar 0) (e2 pMod (eVar 1) (eF fMin2 (aCons (eC (aI 63)) (aCons (eF fLen (aCons (eVar 0) aNil)) aNil)))))) sNil) sNil) (sSeq (sAsg 4 (vAnd (e2 (pB cLt) (eVar 1) (eF fLen (aCons (eVar 0) aNil))) (e2 (pB cGe) (eVar 3) (e2 pPow (eC (aI 10)) (eC (aI 18)))))) (sSeq (sIf (b1 asTr (eVar 4)) (sSeq (sAsg 3 (e2 pBand (eVar 3) (e2 pSub (e2 pPow (e2 pPow (e2 pPow (eC (aI 2)) (eC (aI 60))) (eC (aI 60))) (eC (aI 6))) (eC (aI 1))))) sNil) sNil) (sSeq (sAsg 5 (e2 pAdd (e2 pMod (eVar 3) (eC (aI 2147483629))) (e2 pMul (eC (aI 69621)) (eVar 1)))) (sSeq (sOwn 6 (dF (eF fLst aNil))) (sSeq (sFor (g1 7) (iRg1 (eVar 2)) (sSeq (sIf (b1 asTr (eVar 4)) (sSeq (sApp 6 (e2 pMod (eVar 3) (e2 pPow (eC (aI 10)) (eC (aI 9))))) (sSeq (sAsg 3 (e2 pDiv (eVar 3) (e2 pPow (eC (aI 10)) (eC (aI 9))))) sNil)) (sSeq (sAsg 8 (e2 pMod (e2 pAdd (eVar 5) (e2 pMul (eC (aI 48271)) (e2 pAdd (eVar 7) (eC (aI 1))))) (eC (aI 2147483629)))) (sSeq (sAsg 8 (e2 pMod (e2 pAdd (e2 pMul (eVar 8) (eVar 8)) (eVar 7)) (eC (aI 2147483629)))) (sSeq (sApp 6 (e2 pMod (e2 pMod (e2 pMul (eVar 8) (eVar 8)) (eC (aI 2147483587))) (e2 pPow (eC (aI 10)) (eC (aI 9))))) sNil)))) sNil)) (sFrz 6 (sSeq (sRet (eVar 6)) sNil)))))))))
noncomputable def f__law_draws (xs : List Av) : Rs Av := runF 3 6 t__law_draws xs
noncomputable def t__law_names : EvS := (sSeq (sOwn 1 (dF (eF fLst aNil))) (sSeq (sAsg 2 (e1 pNeg (eC (aI 1)))) (sSeq (sFor (g1 3) (iL (eVar 0)) (sSeq (sAsg 2 (e2 pAdd (e2 pAdd (eVar 2) (eC (aI 1))) (e2 pIx (eF fLst (aCons (eC (aI 0)) (aCons (eC (aI 0)) (aCons (e2 pMod (e2 pDiv (eVar 3) (eC (aI 4))) (eC (aI 3))) (aCons (eVar 3) aNil))))) (e2 pMod (eVar 3) (eC (aI 4)))))) (sSeq (sApp 1 (eVar 2)) sNil))) (sFrz 1 (sSeq (sRet (eVar 1)) sNil)))))
noncomputable def f__law_names (xs : List Av) : Rs Av := runF 1 3 t__law_names xs
noncomputable def t__law_shuffled : EvS := (sSeq (sOwn 2 (dF (eF fLst aNil))) (sSeq (sFor (g2 3 4) (iZip (eVar 0) (eVar 1)) (sSeq (sIns 2 (e2 pMod (eVar 4) (e2 pAdd (eLenO 2) (eC (aI 1)))) (eVar 3)) sNil)) (sFrz 2 (sSeq (sRet (eVar 2)) sNil))))
noncomputable def f__law_shuffled (xs : List Av) : Rs Av := runF 2 3 t__law_shuffled xs
noncomputable def t__law_fallen : EvS := (sSeq (sOwn 2 (dF (eF fList (aCons (eVar 0) aNil)))) (sSeq (sOwn 3 (dF (eF fLst aNil))) (sSeq (sFor (g1 4) (iL (eSl (eVar 1) oN (oS (eF fLen (aCons (eVar 0) aNil))))) (sSeq (sAppPop 3 2 (e2 pIx (eF fLst (aCons (eC (aI 0)) (aCons (e1 pNeg (eC (aI 1))) aNil))) (e2 pMod (eVar 4) (eC (aI 2))))) sNil)) (sFrz 3 (sSeq (sRet (e1 pRev (eVar 3))) sNil)))))
noncomputable def f__law_fallen (xs : List Av) : Rs Av := runF 2 3 t__law_fallen xs
noncomputable def t__law_line : EvS := (sSeq (sAsg 3 (eCall f__law_draws (aCons (eVar 0) (aCons (eVar 1) (aCons (e2 pMul (eC (aI 2)) (eVar 2)) aNil))))) (sSeq (sRet (eCall f__law_shuffled (aCons (eCall f__law_names (aCons (eSl (eVar 3) oN (oS (eVar 2))) aNil)) (aCons (eSl (eVar 3) (oS (eVar 2)) oN) aNil)))) sNil))
noncomputable def f__law_line (xs : List Av) : Rs Av := runF 3 1 t__law_line xs
noncomputable def t__law_folk : EvS := (sSeq (sOwn 5 (dF (eF fLst aNil))) (sSeq (sFor (g1 6) (iRg1 (eVar 3)) (sSeq (sAsg 7 (eCall f__law_draws (aCons (eVar 0) (aCons (e2 pAdd (eVar 1) (eVar 6)) (aCons (e2 pAdd (eF fLen (aCons (eVar 2) aNil)) (eC (aI 1))) aNil))))) (sSeq (sIf (tOr (b2 cEq (eVar 6) (eVar 4)) (tAnd (b2 cLt (eVar 4) (eC (aI 0))) (b2 cGt (e2 pMod (e2 pIx (eVar 7) (e1 pNeg (eC (aI 1)))) (eC (aI 3))) (eC (aI 0))))) (sSeq (sApp 5 (eCall f__law_shuffled (aCons (eVar 2) (aCons (eVar 7) aNil)))) sNil) (sSeq (sApp 5 (eCall f__law_fallen (aCons (eVar 2) (aCons (eVar 7) aNil)))) sNil)) sNil))) (sFrz 5 (sSeq (sRet (eVar 5)) sNil))))
noncomputable def f__law_folk (xs : List Av) : Rs Av := runF 5 3 t__law_folk xs
noncomputable def t__law_weights : EvS := (sSeq (sAsg 3 (eCall f__law_draws (aCons (eVar 0) (aCons (eVar 1) (aCons (eVar 2) aNil))))) (sSeq (sRet (eLc (g1 4) (iL (eVar 3)) tYes (e2 pIx (eF fLst (aCons (eC (aI 1)) (aCons (e2 pAdd (eC (aI 1)) (e2 pMod (e2 pDiv (eVar 4) (eC (aI 4))) (eC (aI 9)))) (aCons (e2 pAdd (eC (aI 1)) (e2 pMod (e2 pDiv (eVar 4) (eC (aI 4))) (eC (aI 2)))) (aCons (e2 pSub (e2 pSub (e2 pPow (eC (aI 10)) (eC (aI 30))) (eC (aI 1))) (eVar 4)) aNil))))) (e2 pMod (eVar 4) (eC (aI 4)))))) sNil))
noncomputable def f__law_weights (xs : List Av) : Rs Av := runF 3 2 t__law_weights xs
noncomputable def t__law_lead : EvS := (sSeq (sAsg 4 (eC (aI 0))) (sSeq (sFor (g2 5 6) (iZip (eVar 0) (eVar 1)) (sSeq (sAsg 4 (e2 pAdd (eVar 4) (e2 pIx (eF fLst (aCons (eVar 6) (aCons (e2 pSub (eC (aI 0)) (eVar 6)) aNil))) (eF fInt (aCons (e2 (pB cGt) (eIndex (eVar 5) (eVar 2)) (eIndex (eVar 5) (eVar 3))) aNil))))) sNil)) (sSeq (sRet (eVar 4)) sNil)))
noncomputable def f__law_lead (xs : List Av) : Rs Av := runF 4 3 t__law_lead xs
noncomputable def t__law_copied (me : List Av → Rs Av) : EvS := (sSeq (sIf (b1 asB (e1 (pIsi "tuple") (eVar 0))) (sSeq (sRet (e1 pTupL (eLc (g1 1) (iL (eVar 0)) tYes (eCall me (aCons (eVar 1) aNil))))) sNil) sNil) (sSeq (sIf (b1 asB (e1 (pIsi "list") (eVar 0))) (sSeq (sRet (eLc (g1 1) (iL (eVar 0)) tYes (eCall me (aCons (eVar 1) aNil)))) sNil) sNil) (sSeq (sRet (eVar 0)) sNil)))
noncomputable def r__law_copied : Nat → List Av → Rs Av
  | 0 => fun _ => none
  | m + 1 => fun xs => runF 1 1 (t__law_copied (r__law_copied m)) xs
noncomputable abbrev f__law_copied : List Av → Rs Av := r__law_copied 5
noncomputable def t__law_names_of : EvS := (sSeq (sAsg 1 (eF fLst (aCons (e1 (pIsX xc xl "NoBack") (eVar 0)) (aCons (e1 (pIsX xc xl "NoFall") (eVar 0)) (aCons (e1 (pIsX xc xl "NoFit") (eVar 0)) aNil))))) (sSeq (sAsg 1 (e2 pAdd (eVar 1) (eF fLst (aCons (e1 (pIsX xc xl "NoFixed") (eVar 0)) (aCons (e1 (pIsX xc xl "NoFolk") (eVar 0)) (aCons (e1 (pIsX xc xl "NoHand") (eVar 0)) aNil)))))) (sSeq (sAsg 1 (e2 pAdd (eVar 1) (eF fLst (aCons (e1 (pIsX xc xl "NoLine") (eVar 0)) (aCons (e1 (pIsX xc xl "NoNames") (eVar 0)) (aCons (e1 (pIsX xc xl "NoNumber") (eVar 0)) aNil)))))) (sSeq (sAsg 1 (e2 pAdd (eVar 1) (eF fLst (aCons (e1 (pIsX xc xl "NoPaper") (eVar 0)) (aCons (e1 (pIsX xc xl "NoRanking") (eVar 0)) (aCons (e1 (pIsX xc xl "NoRow") (eVar 0)) aNil)))))) (sSeq (sAsg 1 (e2 pAdd (eVar 1) (eF fLst (aCons (e1 (pIsX xc xl "NoRule") (eVar 0)) (aCons (e1 (pIsX xc xl "NoText") (eVar 0)) (aCons (e1 (pIsX xc xl "NoTitle") (eVar 0)) aNil)))))) (sSeq (sAsg 1 (e2 pAdd (eVar 1) (eF fLst (aCons (e1 (pIsX xc xl "NoTops") (eVar 0)) (aCons (e1 (pIsX xc xl "NoTree") (eVar 0)) (aCons (e1 (pIsX xc xl "NoWeights") (eVar 0)) aNil)))))) (sSeq (sAsg 1 (e2 pAdd (eVar 1) (eF fLst (aCons (e1 (pIsX xc xl "TooGreat") (eVar 0)) aNil)))) (sSeq (sAsg 2 (eF fLst (aCons (eC (.d (.str "NoBack"))) (aCons (eC (.d (.str "NoFall"))) (aCons (eC (.d (.str "NoFit"))) (aCons (eC (.d (.str "NoFixed"))) (aCons (eC (.d (.str "NoFolk"))) (aCons (eC (.d (.str "NoHand"))) (aCons (eC (.d (.str "NoLine"))) (aCons (eC (.d (.str "NoNames"))) aNil)))))))))) (sSeq (sAsg 2 (e2 pAdd (eVar 2) (eF fLst (aCons (eC (.d (.str "NoNumber"))) (aCons (eC (.d (.str "NoPaper"))) (aCons (eC (.d (.str "NoRanking"))) (aCons (eC (.d (.str "NoRow"))) (aCons (eC (.d (.str "NoRule"))) (aCons (eC (.d (.str "NoText"))) (aCons (eC (.d (.str "NoTitle"))) (aCons (eC (.d (.str "NoTops"))) aNil))))))))))) (sSeq (sAsg 2 (e2 pAdd (eVar 2) (eF fLst (aCons (eC (.d (.str "NoTree"))) (aCons (eC (.d (.str "NoWeights"))) (aCons (eC (.d (.str "TooGreat"))) aNil)))))) (sSeq (sRet (eLc (g2 3 4) (iZip (eVar 2) (eVar 1)) (b1 asTr (eVar 4)) (eVar 3))) sNil)))))))))))
noncomputable def f__law_names_of (xs : List Av) : Rs Av := runF 1 4 (t__law_names_of xc) xs
noncomputable def t__law_refused : EvS := (sSeq (sAsg 4 (eC aN)) (sSeq (sTry xc xl 5 4 (sSeq (sExpr (eCall f_margin (aCons (eVar 0) (aCons (eVar 1) (aCons (eVar 2) (aCons (eVar 3) aNil)))))) sNil)) (sSeq (sRet (vAnd (e1 (pIsVE xc xl) (eVar 4)) (e2 (pB cEq) (eCall (f__law_names_of xc) (aCons (eVar 4) aNil)) (eF fLst (aCons (eC (.d (.str "NoNames"))) aNil))))) sNil)))
noncomputable def f__law_refused (xs : List Av) : Rs Av := runF 4 2 (t__law_refused xc) xs
noncomputable def t_law : EvS := (sSeq (sAsg 1 (eCall f__law_draws (aCons (eVar 0) (aCons (eC (aI 0)) (aCons (eC (aI 5)) aNil))))) (sSeq (sAsg 2 (eCall f__law_line (aCons (eVar 0) (aCons (eC (aI 1)) (aCons (e2 pIx (eF fLst (aCons (e2 pAdd (eC (aI 1)) (e2 pMod (e2 pIx (eVar 1) (eC (aI 0))) (eC (aI 7)))) (aCons (eC (aI 10)) aNil))) (eF fInt (aCons (e2 (pB cEq) (e2 pMod (e2 pDiv (e2 pIx (eVar 1) (eC (aI 0))) (eC (aI 64))) (eC (aI 8))) (eC (aI 3))) aNil))) aNil))))) (sSeq (sAsg 3 (e2 pIx (eF fLst (aCons (e2 pAdd (eC (aI 1)) (e2 pMod (e2 pIx (eVar 1) (eC (aI 1))) (eC (aI 9)))) (aCons (eC (aI 20)) aNil))) (eF fInt (aCons (e2 (pB cEq) (e2 pMod (e2 pDiv (e2 pIx (eVar 1) (eC (aI 1))) (eC (aI 64))) (eC (aI 8))) (eC (aI 3))) aNil)))) (sSeq (sAsg 4 (eCall f__law_folk (aCons (eVar 0) (aCons (eC (aI 3)) (aCons (eVar 2) (aCons (eVar 3) (aCons (e2 pIx (eF fLst (aCons (e1 pNeg (eC (aI 1))) (aCons (eVar 3) aNil))) (e2 pMod (e2 pIx (eVar 1) (eC (aI 2))) (eC (aI 2)))) aNil))))))) (sSeq (sAsg 5 (eCall f__law_weights (aCons (eVar 0) (aCons (eC (aI 2)) (aCons (eVar 3) aNil))))) (sSeq (sAsg 6 (eCall f__law_copied (aCons (eF fLst (aCons (eVar 4) (aCons (eVar 5) aNil))) aNil))) (sSeq (sFor (g1 7) (iL (eVar 2)) (sSeq (sFor (g1 8) (iL (eVar 2)) (sSeq (sIf (b2 cNe (eVar 7) (eVar 8)) (sSeq (sAsg 9 (eCall f_margin (aCons (e2 pIx (eVar 6) (eC (aI 0))) (aCons (e2 pIx (eVar 6) (eC (aI 1))) (aCons (eVar 7) (aCons (eVar 8) aNil)))))) (sSeq (sIf (tOr (tNot (b1 asB (eCall f__law_whole (aCons (eVar 9) aNil)))) (b2 cNe (eVar 9) (eCall f__law_lead (aCons (eVar 4) (aCons (eVar 5) (aCons (eVar 7) (aCons (eVar 8) aNil))))))) (sSeq (sRet (eC (aB false))) sNil) sNil) (sSeq (sIf (b2 cNe (eVar 6) (eF fLst (aCons (eVar 4) (aCons (eVar 5) aNil)))) (sSeq (sRet (eC (aB false))) sNil) sNil) sNil))) sNil) sNil)) sNil)) (sSeq (sAsg 7 (e2 pIx (eVar 2) (e2 pMod (e2 pIx (eVar 1) (eC (aI 3))) (eF fLen (aCons (eVar 2) aNil))))) (sSeq (sAsg 10 (eLc (g1 11) (iL (eVar 2)) (b2 cNi (e2 pAdd (eVar 11) (eC (aI 1))) (eVar 2)) (e2 pAdd (eVar 11) (eC (aI 1))))) (sSeq (sFor (g1 8) (iL (eF fLst (aCons (eVar 7) (aCons (e2 pIx (eVar 10) (e2 pMod (e2 pIx (eVar 1) (eC (aI 4))) (eF fLen (aCons (eVar 10) aNil)))) (aCons (e2 pAdd (e2 pAdd (eF fMax1 (aCons (eVar 2) aNil)) (eC (aI 1))) (e2 pIx (eVar 1) (eC (aI 4)))) aNil))))) (sSeq (sIf (tOr (tNot (b1 asB (eCall (f__law_refused xc) (aCons (e2 pIx (eVar 6) (eC (aI 0))) (aCons (e2 pIx (eVar 6) (eC (aI 1))) (aCons (eVar 7) (aCons (eVar 8) aNil))))))) (tNot (b1 asB (eCall (f__law_refused xc) (aCons (e2 pIx (eVar 6) (eC (aI 0))) (aCons (e2 pIx (eVar 6) (eC (aI 1))) (aCons (eVar 8) (aCons (eVar 7) aNil)))))))) (sSeq (sRet (eC (aB false))) sNil) sNil) sNil)) (sSeq (sRet (e2 (pB cEq) (eVar 6) (eF fLst (aCons (eVar 4) (aCons (eVar 5) aNil))))) sNil)))))))))))
noncomputable def f_law (xs : List Av) : Rs Av := runF 1 11 (t_law xc) xs
end
end KX

set_option Elab.async false
set_option linter.all false
set_option maxRecDepth 100000
set_option maxHeartbeats 4000000
namespace KX
open PySem PySem.Spec PyProof.Rows L2 M
local macro_rules | `(tactic| walk_at "nm") => `(tactic| first
  | assumption
  | exact nm_tr (by assumption)
  | exact nm_blk (by first | assumption | exact Nm.hN (by assumption)) (by first | exact .inl rfl | exact .inr (.inl rfl) | exact vis_rel rfl) rfl rfl
  | exact nm_gen (by first | assumption | exact Nm.hN (by assumption)) (by first | exact .inl rfl | exact .inr (.inl rfl) | exact .inr (.inr rfl)) rfl rfl)
local macro_rules | `(tactic| walk_at "bl") => `(tactic| first
  | assumption
  | exact ⟨rfl, by assumption⟩
  | exact ⟨Bl.hg (by assumption), Bl.hm (by assumption)⟩)
local macro_rules | `(tactic| walk_at "ix") => `(tactic| first | assumption | exact Nm.hN (by assumption))
local macro_rules | `(tactic| walk_at "tk") => `(tactic| first | assumption | exact takes_false fun _ _ _ z => z)
local macro_rules | `(tactic| walk_at "rm") => `(tactic| first | assumption)
local macro_rules | `(tactic| walk_at "cl") => `(tactic| first
  | (with_reducible assumption)
  | exact clN_blk (by with_reducible assumption) rfl
  | exact clN_blk2 (by with_reducible assumption) rfl
  | exact gl_gen (by with_reducible assumption) (by assumption) (by decide) rfl rfl
  | exact clN_tr (by with_reducible assumption) (gl_of (by assumption) rfl))
local macro_rules | `(tactic| walk_at "bk") => `(tactic| first
  | exact blk_of (by assumption) (by assumption) (by decide +kernel)
  | exact blk_of (by assumption) (relS_of (by assumption)) (by decide +kernel))
local macro_rules | `(tactic| walk_at "lv") => `(tactic| first | exact fun _ => ⟨.inl rfl, rfl⟩ | rfl)
local macro_rules | `(tactic| walk_at "ints") => `(tactic| (intro _ _ _ _ _))
local macro_rules | `(tactic| walk_at "comp") => `(tactic| repeat' (first
  | (with_reducible exact sds_nil)
  | (with_reducible exact sd_no)
  | (with_reducible exact snd_no)
  | (with_reducible refine' sds_frz ?_)
  | (with_reducible refine' sds_cons ?_ ?_)
  | ((with_reducible refine' sds_open ?_ ?_); rotate_left 3; exact rfl)
  | ((with_reducible refine' snd_var ?_); walk_at "nm")
  | (with_reducible exact snd_int)
  | (with_reducible exact snd_bool)
  | (with_reducible exact snd_none)
  | (with_reducible exact snd_str)
  | ((with_reducible refine' snd_globI ?_); first | assumption | exact ⟨rfl, by assumption, rfl⟩)
  | ((with_reducible refine' snd_kd ?_); first | assumption | exact ⟨rfl, rfl, by assumption⟩)
  | (with_reducible refine' snd_add ?_ ?_)
  | (with_reducible refine' snd_sub ?_ ?_)
  | (with_reducible refine' snd_mul ?_ ?_)
  | (with_reducible refine' snd_fdiv ?_ ?_)
  | (with_reducible refine' snd_mod ?_ ?_)
  | (with_reducible refine' snd_pow ?_ ?_)
  | (with_reducible refine' snd_shl ?_ ?_)
  | (with_reducible refine' snd_shr ?_ ?_)
  | (with_reducible refine' snd_band ?_ ?_)
  | (with_reducible refine' snd_neg ?_)
  | (with_reducible refine' snd_lt ?_ ?_)
  | (with_reducible refine' snd_le ?_ ?_)
  | (with_reducible refine' snd_gt ?_ ?_)
  | (with_reducible refine' snd_ge ?_ ?_)
  | ((with_reducible refine' snd_eq ?_ ?_ ?_); rotate_left 1; assumption)
  | ((with_reducible refine' snd_ne ?_ ?_ ?_); rotate_left 1; assumption)
  | ((with_reducible refine' snd_in ?_ ?_ ?_ ?_); rotate_left 1; assumption; rfl)
  | ((with_reducible refine' snd_ni ?_ ?_ ?_ ?_); rotate_left 1; assumption; rfl)
  | (with_reducible refine' snd_isN ?_)
  | (with_reducible refine' snd_isNn ?_)
  | (with_reducible refine' sdT_bor ?_)
  | (with_reducible refine' snd_bor ?_)
  | (with_reducible refine' sdT_lt ?_ ?_)
  | (with_reducible refine' sdT_le ?_ ?_)
  | (with_reducible refine' sdT_gt ?_ ?_)
  | (with_reducible refine' sdT_ge ?_ ?_)
  | ((with_reducible refine' sdT_eq ?_ ?_ ?_); rotate_left 1; assumption)
  | ((with_reducible refine' sdT_ne ?_ ?_ ?_); rotate_left 1; assumption)
  | ((with_reducible refine' sdT_in ?_ ?_ ?_ ?_); rotate_left 1; assumption; rfl)
  | ((with_reducible refine' sdT_ni ?_ ?_ ?_ ?_); rotate_left 1; assumption; rfl)
  | (with_reducible refine' sdT_isN ?_)
  | (with_reducible refine' sdT_isNn ?_)
  | (with_reducible refine' snd_chLe rfl ?_ ?_ ?_)
  | (with_reducible refine' sdT_chLe rfl ?_ ?_ ?_)
  | (with_reducible refine' sdT_chLeLt rfl ?_ ?_ ?_)
  | (with_reducible refine' sdT_not ?_)
  | (with_reducible refine' sdW_one ?_)
  | (with_reducible refine' sdW_and ?_ ?_)
  | (with_reducible refine' sdW_or ?_ ?_)
  | (with_reducible refine' sdT_bop ?_)
  | (with_reducible refine' sdT_call ?_)
  | (with_reducible refine' sdT_name ?_)
  | (with_reducible refine' snd_one ?_)
  | (with_reducible refine' snd_and ?_ ?_)
  | (with_reducible refine' snd_or ?_ ?_)
  | (with_reducible refine' snd_not ?_)
  | (with_reducible refine' snd_if ?_ ?_ ?_)
  | (with_reducible exact sdA_nil)
  | ((with_reducible refine' sdA_cons ?_ ?_ ?_); rotate_left 2; exact rfl)
  | (with_reducible refine' snd_lst ?_)
  | (with_reducible refine' snd_tup ?_)
  | ((with_reducible refine' snd_len ?_ ?_ ?_ ?_); (walk_at "bl"); rotate_left 1; exact rfl; exact rfl)
  | ((with_reducible refine' snd_abs ?_ ?_ ?_ ?_); (walk_at "bl"); rotate_left 1; exact rfl; exact rfl)
  | ((with_reducible refine' snd_list ?_ ?_ ?_ ?_); (walk_at "bl"); rotate_left 1; exact rfl; exact rfl)
  | ((with_reducible refine' snd_sorted ?_ ?_ ?_ ?_ ?_); rotate_left 1; assumption; (walk_at "bl"); rotate_left 1; exact rfl; exact rfl)
  | ((with_reducible refine' snd_max1 ?_ ?_ ?_ ?_); assumption; (walk_at "bl"); rotate_left 1; exact rfl)
  | ((with_reducible refine' snd_min1 ?_ ?_ ?_ ?_); assumption; (walk_at "bl"); rotate_left 1; exact rfl)
  | ((with_reducible refine' snd_max2 ?_ ?_ ?_ ?_ ?_); assumption; (walk_at "bl"); rotate_left 1; exact rfl; exact rfl)
  | ((with_reducible refine' snd_min2 ?_ ?_ ?_ ?_ ?_); assumption; (walk_at "bl"); rotate_left 1; exact rfl; exact rfl)
  | ((with_reducible refine' snd_sum ?_ ?_ ?_ ?_); assumption; (walk_at "bl"); rotate_left 1; exact rfl)
  | ((with_reducible refine' snd_intB ?_ ?_ ?_); (walk_at "bl"); rotate_left 1; exact rfl)
  | ((with_reducible refine' snd_isi kit_int ?_ ?_ ?_ ?_ ?_ ?_); (walk_at "bl"); (walk_at "bl"); rotate_left 1; exact rfl; exact rfl; exact rfl)
  | ((with_reducible refine' snd_isi kit_bool ?_ ?_ ?_ ?_ ?_ ?_); (walk_at "bl"); (walk_at "bl"); rotate_left 1; exact rfl; exact rfl; exact rfl)
  | ((with_reducible refine' snd_isi kit_list ?_ ?_ ?_ ?_ ?_ ?_); (walk_at "bl"); (walk_at "bl"); rotate_left 1; exact rfl; exact rfl; exact rfl)
  | ((with_reducible refine' snd_isi kit_tuple ?_ ?_ ?_ ?_ ?_ ?_); (walk_at "bl"); (walk_at "bl"); rotate_left 1; exact rfl; exact rfl; exact rfl)
  | ((with_reducible refine' snd_isi kit_str ?_ ?_ ?_ ?_ ?_ ?_); (walk_at "bl"); (walk_at "bl"); rotate_left 1; exact rfl; exact rfl; exact rfl)
  | ((with_reducible refine' snd_isVE ?_ ?_ ?_ ?_ ?_ ?_ ?_); (walk_at "bl"); (walk_at "bl"); assumption; rotate_left 1; exact rfl; exact rfl; exact rfl)
  | ((with_reducible refine' snd_isX ?_ ?_ ?_ ?_ ?_ ?_ ?_ ?_ ?_); (walk_at "bl"); assumption; decide; (first | exact gl_of (by assumption) rfl | exact rfl); rfl; rotate_left 1; exact rfl; exact rfl; exact rfl)
  | ((with_reducible refine' snd_tupleL ?_ ?_ ?_); (walk_at "bl"); rotate_left 1; exact rfl)
  | ((with_reducible refine' snd_lenSet ?_ ?_ ?_ ?_ ?_); (walk_at "bl"); (walk_at "bl"); assumption; rotate_left 1; exact rfl)
  | ((with_reducible refine' snd_lenO ?_ ?_ ?_); (walk_at "bl"); (walk_at "nm"); exact rfl)
  | ((with_reducible refine' snd_ixO ?_ ?_ ?_); (walk_at "nm"); (intro _ _; rfl))
  | ((with_reducible refine' snd_ix ?_ ?_ ?_); (intro _ _; rfl))
  | ((with_reducible refine' snd_ixD ?_ ?_ ?_ ?_); rotate_left 1; assumption; (intro _ _; rfl))
  | ((with_reducible refine' snd_index ?_ ?_ ?_ ?_ ?_ ?_); rotate_left 2; exact rfl; exact rfl; exact rfl; exact rfl)
  | (with_reducible exact sdO_none)
  | (with_reducible refine' sdO_some ?_)
  | (with_reducible refine' snd_slice ?_ ?_ ?_)
  | (with_reducible refine' snd_rev ?_)
  | ((with_reducible refine' snd_call ?_ ?_ ?_ ?_ ?_); (walk_at "cl"); (walk_at "tk"); rotate_left 1; exact rfl; exact rfl)
  | ((with_reducible refine' snd_lc10 ?_ ?_ ?_ ?_ ?_ ?_ ?_ ?_); assumption; assumption; (walk_at "ix"); (walk_at "bk"); rotate_left 2; (walk_at "lv"); (intro _; rfl); rotate_left 1; (walk_at "ints"))
  | ((with_reducible refine' snd_lc11 ?_ ?_ ?_ ?_ ?_ ?_ ?_ ?_ ?_); assumption; assumption; (walk_at "ix"); (walk_at "bk"); rotate_left 3; (walk_at "lv"); (intro _; rfl); rotate_left 1; (walk_at "ints"); rotate_left 1; (walk_at "ints"))
  | ((with_reducible refine' snd_lc20 ?_ ?_ ?_ ?_ ?_ ?_ ?_ ?_ ?_ ?_); assumption; assumption; (walk_at "ix"); (walk_at "ix"); (walk_at "bk"); rotate_left 2; (walk_at "lv"); (walk_at "lv"); (intro _; rfl); rotate_left 1; (walk_at "ints"))
  | ((with_reducible refine' snd_lc21 ?_ ?_ ?_ ?_ ?_ ?_ ?_ ?_ ?_ ?_ ?_); assumption; assumption; (walk_at "ix"); (walk_at "ix"); (walk_at "bk"); rotate_left 3; (walk_at "lv"); (walk_at "lv"); (intro _; rfl); rotate_left 1; (walk_at "ints"); rotate_left 1; (walk_at "ints"))
  | ((with_reducible refine' snd_dc2 ?_ ?_ ?_ ?_ ?_ ?_ ?_ ?_ ?_ ?_ ?_); assumption; assumption; (walk_at "ix"); (walk_at "ix"); (walk_at "bk"); rotate_left 3; (walk_at "lv"); (walk_at "lv"); (intro _; rfl); rotate_left 1; (walk_at "ints"); rotate_left 1; (walk_at "ints"))
  | ((with_reducible refine' sdI_rg1 ?_ ?_ ?_ ?_); (walk_at "bl"); rotate_left 1; exact rfl; exact rfl)
  | ((with_reducible refine' sdI_rg2 ?_ ?_ ?_ ?_ ?_ ?_ ?_); (walk_at "bl"); rotate_left 2; exact rfl; exact rfl; exact rfl; exact rfl)
  | ((with_reducible refine' sdI_en ?_ ?_ ?_ ?_); (walk_at "bl"); rotate_left 1; exact rfl; exact rfl)
  | ((with_reducible refine' sdI_zip ?_ ?_ ?_ ?_ ?_ ?_); (walk_at "bl"); rotate_left 2; exact rfl; exact rfl; exact rfl)
  | ((with_reducible refine' sdI_rev ?_ ?_ ?_ ?_); (walk_at "bl"); rotate_left 1; exact rfl; exact rfl)
  | (with_reducible refine' sdI_tup ?_)
  | (with_reducible refine' sdI_list ?_)
  | (with_reducible refine' sdF_bor ?_)
  | (with_reducible refine' sdF_lst ?_)
  | ((with_reducible refine' sdF_list ?_ ?_ ?_ ?_); (walk_at "bl"); rotate_left 1; exact rfl; exact rfl)
  | (with_reducible refine' sdF_slice ?_ ?_ ?_)
  | (with_reducible refine' sdF_rev ?_)
  | ((with_reducible refine' snd_gen10 csm_sum ?_ ?_ ?_ ?_ ?_ ?_ ?_ ?_ ?_ ?_ ?_ ?_ ?_ ?_ ?_ ?_ ?_ ?_); walk_at "gen1")
  | ((with_reducible refine' snd_gen10 csm_min ?_ ?_ ?_ ?_ ?_ ?_ ?_ ?_ ?_ ?_ ?_ ?_ ?_ ?_ ?_ ?_ ?_ ?_); walk_at "gen1")
  | ((with_reducible refine' snd_gen10 csm_all ?_ ?_ ?_ ?_ ?_ ?_ ?_ ?_ ?_ ?_ ?_ ?_ ?_ ?_ ?_ ?_ ?_ ?_); walk_at "gen1")
  | ((with_reducible refine' snd_gen10 csm_any ?_ ?_ ?_ ?_ ?_ ?_ ?_ ?_ ?_ ?_ ?_ ?_ ?_ ?_ ?_ ?_ ?_ ?_); walk_at "gen1")
  | ((with_reducible refine' snd_gen20 csm_sum ?_ ?_ ?_ ?_ ?_ ?_ ?_ ?_ ?_ ?_ ?_ ?_ ?_ ?_ ?_ ?_ ?_ ?_ ?_ ?_); walk_at "gen2")
  | ((with_reducible refine' snd_gen20 csm_all ?_ ?_ ?_ ?_ ?_ ?_ ?_ ?_ ?_ ?_ ?_ ?_ ?_ ?_ ?_ ?_ ?_ ?_ ?_ ?_); walk_at "gen2")
  | ((with_reducible refine' snd_gen20 csm_any ?_ ?_ ?_ ?_ ?_ ?_ ?_ ?_ ?_ ?_ ?_ ?_ ?_ ?_ ?_ ?_ ?_ ?_ ?_ ?_); walk_at "gen2")
  | ((with_reducible refine' snd_gen21 csm_sum ?_ ?_ ?_ ?_ ?_ ?_ ?_ ?_ ?_ ?_ ?_ ?_ ?_ ?_ ?_ ?_ ?_ ?_ ?_ ?_ ?_); walk_at "gen3")
  | (with_reducible refine' sd_ret ?_)
  | (with_reducible exact sd_retN)
  | (with_reducible refine' sd_if ?_ ?_ ?_)
  | (with_reducible exact sd_bk)
  | (with_reducible exact sd_ct)
  | (with_reducible exact sd_pass)
  | ((with_reducible refine' sd_asgLc10 ?_ ?_ ?_ ?_ ?_ ?_ ?_ ?_ ?_ ?_ ?_); assumption; assumption; (walk_at "ix"); (walk_at "ix"); (exact hyl_of (by assumption) (by decide +kernel)); (exact swp_t (by assumption) (by assumption) rfl rfl rfl); (walk_at "bk"); rotate_left 2; (walk_at "lv"); (intro _; rfl); rotate_left 1; (walk_at "ints"))
  | ((with_reducible refine' sd_asgLc11 ?_ ?_ ?_ ?_ ?_ ?_ ?_ ?_ ?_ ?_ ?_ ?_); assumption; assumption; (walk_at "ix"); (walk_at "ix"); (exact hyl_of (by assumption) (by decide +kernel)); (exact swp_t (by assumption) (by assumption) rfl rfl rfl); (walk_at "bk"); rotate_left 3; (walk_at "lv"); (intro _; rfl); rotate_left 1; (walk_at "ints"); rotate_left 1; (walk_at "ints"))
  | ((with_reducible refine' sd_asgLc20 ?_ ?_ ?_ ?_ ?_ ?_ ?_ ?_ ?_ ?_ ?_ ?_ ?_); assumption; assumption; (walk_at "ix"); (walk_at "ix"); (exact hyl_of (by assumption) (by decide +kernel)); (walk_at "ix"); (exact swp_t (by assumption) (by assumption) rfl rfl rfl); (walk_at "bk"); rotate_left 2; (walk_at "lv"); (walk_at "lv"); (intro _; rfl); rotate_left 1; (walk_at "ints"))
  | ((with_reducible refine' sd_asgLc21 ?_ ?_ ?_ ?_ ?_ ?_ ?_ ?_ ?_ ?_ ?_ ?_ ?_ ?_); assumption; assumption; (walk_at "ix"); (walk_at "ix"); (exact hyl_of (by assumption) (by decide +kernel)); (walk_at "ix"); (exact swp_t (by assumption) (by assumption) rfl rfl rfl); (walk_at "bk"); rotate_left 3; (walk_at "lv"); (walk_at "lv"); (intro _; rfl); rotate_left 1; (walk_at "ints"); rotate_left 1; (walk_at "ints"))
  | ((with_reducible refine' sd_asg ?_ ?_ ?_ ?_); assumption; assumption; rotate_left 1; (first | exact rfl | ((refine' swp_f ?_ ?_); rotate_left 1; assumption; exact rfl) | ((refine' swp_f ?_ ?_); rotate_left 1; assumption; decide +kernel)))
  | ((with_reducible refine' sd_own ?_ ?_ ?_ ?_); assumption; assumption; rotate_left 1; exact rfl)
  | ((with_reducible refine' sd_appPop ?_ ?_ ?_ ?_ ?_ ?_ ?_ ?_ ?_ ?_ ?_ ?_); (walk_at "nm"); (walk_at "nm"); rotate_left 1; exact rfl; exact rfl; exact rfl; exact rfl; exact rfl; exact rfl; exact rfl; exact rfl; exact rfl)
  | ((with_reducible refine' sd_app ?_ ?_ ?_ ?_ ?_ ?_ ?_); (walk_at "nm"); rotate_left 1; exact rfl; exact rfl; exact rfl; exact rfl; exact rfl)
  | ((with_reducible refine' sd_ins ?_ ?_ ?_ ?_ ?_ ?_ ?_ ?_ ?_ ?_); (walk_at "nm"); rotate_left 2; exact rfl; exact rfl; exact rfl; exact rfl; exact rfl; exact rfl; exact rfl)
  | ((with_reducible refine' sd_setO ?_ ?_ ?_ ?_ ?_ ?_ ?_); (walk_at "nm"); rotate_left 2; exact rfl; exact rfl; exact rfl; (intro _; rfl))
  | ((with_reducible refine' sd_for1 ?_ ?_ ?_ ?_ ?_ ?_ ?_); assumption; assumption; assumption; assumption; rotate_left 2; (intro _; rfl))
  | ((with_reducible refine' sd_for2 ?_ ?_ ?_ ?_ ?_ ?_ ?_ ?_); assumption; assumption; assumption; assumption; assumption; rotate_left 2; (intro _; rfl))
  | ((with_reducible refine' sd_while ?_ ?_ ?_); assumption)
  | ((with_reducible refine' sd_aug ip_add ?_ ?_ ?_); assumption; assumption)
  | ((with_reducible refine' sd_aug ip_sub ?_ ?_ ?_); assumption; assumption)
  | ((with_reducible refine' sd_asg2 ?_ ?_ ?_ ?_ ?_ ?_); assumption; assumption; assumption; rotate_left 1; exact rfl; exact rfl)
  | ((with_reducible refine' sd_par2 ?_ ?_ ?_ ?_ ?_ ?_ ?_ ?_ ?_ ?_); assumption; assumption; assumption; assumption; decide; (exact hyl_of (by assumption) (by decide +kernel)); (exact hyl_of (by assumption) (by decide +kernel)); rotate_left 1; exact rfl; exact rfl)
  | ((with_reducible refine' sd_un2 ?_ ?_ ?_ ?_ ?_ ?_ ?_ ?_); assumption; assumption; assumption; assumption; rotate_left 1; exact rfl; exact rfl; exact rfl)
  | ((with_reducible refine' sd_raise ?_ ?_ ?_ ?_ ?_ ?_ ?_); rotate_left 1; assumption; (walk_at "tk"); assumption; decide; decide; (exact gl_of (by assumption) rfl); decide)
  | ((with_reducible refine' sd_try ?_ ?_ ?_ ?_ ?_ ?_ ?_ ?_ ?_ ?_ ?_ ?_ ?_); assumption; assumption; (walk_at "tk"); (walk_at "nm"); (exact hyl_of (by assumption) (by decide +kernel)); assumption; (exact hyl_of (by assumption) (by decide +kernel)); assumption; (exact gl_of (by assumption) rfl); rotate_left 1; decide; (exact hyl_of (by assumption) (by decide +kernel)); exact rfl; (intro _ _ _ _ _ _ _))
  | ((with_reducible refine' sd_expr ?_ ?_); rotate_left 1; exact rfl)
  | fail))
local macro_rules | `(tactic| walk_at "gen0") => `(tactic| (skip))
local macro_rules | `(tactic| walk_at "gens") => `(tactic| exact ⟨rfl, rfl, by decide +kernel, rfl⟩)
local macro_rules | `(tactic| walk_at "boot") => `(tactic| first | exact boot_sum1 | exact boot_all1 | exact boot_any1 | exact boot_min1)
local macro_rules | `(tactic| walk_at "gen1") => `(tactic| (rotate_left 3; assumption; (walk_at "bl"); (walk_at "boot"); assumption; assumption; assumption; assumption; assumption; (walk_at "ix"); (walk_at "bk"); (walk_at "gens"); rotate_left 2; (walk_at "lv"); (intro _; rfl); exact rfl; decide; decide; rotate_left 1; (intro _ _ _ _ _ _ _ _ _)))
local macro_rules | `(tactic| walk_at "gen2") => `(tactic| (rotate_left 3; assumption; (walk_at "bl"); (walk_at "boot"); assumption; assumption; assumption; assumption; assumption; (walk_at "ix"); (walk_at "ix"); (walk_at "bk"); (walk_at "gens"); rotate_left 2; (walk_at "lv"); (walk_at "lv"); (intro _; rfl); exact rfl; decide; decide; rotate_left 1; (intro _ _ _ _ _ _ _ _ _)))
local macro_rules | `(tactic| walk_at "gen3") => `(tactic| (rotate_left 3; assumption; (walk_at "bl"); (walk_at "boot"); assumption; assumption; assumption; assumption; assumption; (walk_at "ix"); (walk_at "ix"); (walk_at "bk"); (walk_at "gens"); rotate_left 3; (walk_at "lv"); (walk_at "lv"); (intro _; rfl); exact rfl; decide; decide; rotate_left 1; (intro _ _ _ _ _ _ _ _ _); rotate_left 1; (intro _ _ _ _ _ _ _ _ _)))

theorem sd_is_whole {C : Cn} {xc : Str → Addr} (hN : C.X.N = (["thing"] : List Str)) (hS : C.X.env.scope = defScope sis_whole) (nd : C.X.N.Nodup) (hc : C.X.calm = true) (hp : PassesOwn (model C.X.prog C.X.w) C.X.A C.X.env C.X.xe) (hr : Room 0 C.X.A) (tk : Takes C.X C.CW) (hfn : ∀ x, C.X.fn x = true) (hbk : C.X.env.blockKind = .function)
    (b_bool : C.X.mg "bool" = none)
    (b_int : C.X.mg "int" = none)
    (b_isinstance : C.X.mg "isinstance" = none)
    : SndSs C xc (defBody sis_whole) t_is_whole := by
  have n0 : Nm C.X 0 "thing" := nm_of hN hS rfl (by first | exact .inl rfl | exact .inr (.inl rfl)) rfl rfl
  try have m0 : Lm C.X 0 "thing" := lm_of hN hS rfl (.inl rfl) (.inr rfl)
  try have m0 : Lm C.X 0 "thing" := lm_of hN hS rfl (.inr rfl) (.inl (hfn _))
  have z_bool : Bl C.X "bool" := ⟨gl_of hS rfl, b_bool⟩
  have z_int : Bl C.X "int" := ⟨gl_of hS rfl, b_int⟩
  have z_isinstance : Bl C.X "isinstance" := ⟨gl_of hS rfl, b_isinstance⟩
  unfold t_is_whole
  walk_at "comp"
theorem sd_is_name {C : Cn} {xc : Str → Addr} (hN : C.X.N = (["thing"] : List Str)) (hS : C.X.env.scope = defScope sis_name) (nd : C.X.N.Nodup) (hc : C.X.calm = true) (hp : PassesOwn (model C.X.prog C.X.w) C.X.A C.X.env C.X.xe) (hr : Room 1 C.X.A) (tk : Takes C.X C.CW) (hfn : ∀ x, C.X.fn x = true) (hbk : C.X.env.blockKind = .function)
    (c_is_whole : ClN C "is_whole" (aspT xc f_is_whole))
    : SndSs C xc (defBody sis_name) t_is_name := by
  have n0 : Nm C.X 0 "thing" := nm_of hN hS rfl (by first | exact .inl rfl | exact .inr (.inl rfl)) rfl rfl
  try have m0 : Lm C.X 0 "thing" := lm_of hN hS rfl (.inl rfl) (.inr rfl)
  try have m0 : Lm C.X 0 "thing" := lm_of hN hS rfl (.inr rfl) (.inl (hfn _))
  have cc_is_whole : Cl C "is_whole" (aspT xc f_is_whole) := clN_top c_is_whole (gl_of hS rfl)
  unfold t_is_name
  walk_at "comp"
theorem sd_is_ranking {C : Cn} {xc : Str → Addr} (hN : C.X.N = (["thing", "name"] : List Str)) (hS : C.X.env.scope = defScope sis_ranking) (nd : C.X.N.Nodup) (hc : C.X.calm = true) (hp : PassesOwn (model C.X.prog C.X.w) C.X.A C.X.env C.X.xe) (hr : Room 6 C.X.A) (tk : Takes C.X C.CW) (hfn : ∀ x, C.X.fn x = true) (hbk : C.X.env.blockKind = .function)
    (b_all : C.X.mg "all" = none)
    (b_isinstance : C.X.mg "isinstance" = none)
    (b_len : C.X.mg "len" = none)
    (b_list : C.X.mg "list" = none)
    (b_set : C.X.mg "set" = none)
    (k_MOST_NAMES : ∃ t, C.X.mg "MOST_NAMES" = some (.int 10 t))
    (f_is_name : FnG C.X.prog C.X.w C.X.K C.X.mg C.X.base C.W "is_name" 2 (aspT xc f_is_name))
    {cd P : Addr} (TB : GxR.TabB C.X.base C.X.mg cd P) (hPT : P ∈ C.W.T) (hcode : C.X.env.code = .ref cd)
    : SndSs C xc (defBody sis_ranking) t_is_ranking := by
  have n0 : Nm C.X 0 "thing" := nm_of hN hS rfl (by first | exact .inl rfl | exact .inr (.inl rfl)) rfl rfl
  try have m0 : Lm C.X 0 "thing" := lm_of hN hS rfl (.inl rfl) (.inr rfl)
  try have m0 : Lm C.X 0 "thing" := lm_of hN hS rfl (.inr rfl) (.inl (hfn _))
  have i1 : Ix C 1 "name" := ix_of hN rfl
  have z_all : Bl C.X "all" := ⟨gl_of hS rfl, b_all⟩
  have z_isinstance : Bl C.X "isinstance" := ⟨gl_of hS rfl, b_isinstance⟩
  have z_len : Bl C.X "len" := ⟨gl_of hS rfl, b_len⟩
  have z_list : Bl C.X "list" := ⟨gl_of hS rfl, b_list⟩
  have z_set : Bl C.X "set" := ⟨gl_of hS rfl, b_set⟩
  have kk_MOST_NAMES : Gl C.X "MOST_NAMES" ∧ (∃ t, C.X.mg "MOST_NAMES" = some (.int 10 t)) ∧ (("MOST_NAMES" : Str) == ("__debug__" : Str)) = false := ⟨gl_of hS rfl, k_MOST_NAMES, rfl⟩
  unfold t_is_ranking
  walk_at "comp"
theorem sd_have_same_names {C : Cn} {xc : Str → Addr} (hN : C.X.N = (["one", "other"] : List Str)) (hS : C.X.env.scope = defScope shave_same_names) (nd : C.X.N.Nodup) (hc : C.X.calm = true) (hp : PassesOwn (model C.X.prog C.X.w) C.X.A C.X.env C.X.xe) (hr : Room 0 C.X.A) (tk : Takes C.X C.CW) (hfn : ∀ x, C.X.fn x = true) (hbk : C.X.env.blockKind = .function)
    (b_sorted : C.X.mg "sorted" = none)
    : SndSs C xc (defBody shave_same_names) t_have_same_names := by
  have n0 : Nm C.X 0 "one" := nm_of hN hS rfl (by first | exact .inl rfl | exact .inr (.inl rfl)) rfl rfl
  try have m0 : Lm C.X 0 "one" := lm_of hN hS rfl (.inl rfl) (.inr rfl)
  try have m0 : Lm C.X 0 "one" := lm_of hN hS rfl (.inr rfl) (.inl (hfn _))
  have n1 : Nm C.X 1 "other" := nm_of hN hS rfl (by first | exact .inl rfl | exact .inr (.inl rfl)) rfl rfl
  try have m1 : Lm C.X 1 "other" := lm_of hN hS rfl (.inl rfl) (.inr rfl)
  try have m1 : Lm C.X 1 "other" := lm_of hN hS rfl (.inr rfl) (.inl (hfn _))
  have z_sorted : Bl C.X "sorted" := ⟨gl_of hS rfl, b_sorted⟩
  unfold t_have_same_names
  walk_at "comp"
theorem sd_is_folk {C : Cn} {xc : Str → Addr} (hN : C.X.N = (["thing", "ranking"] : List Str)) (hS : C.X.env.scope = defScope sis_folk) (nd : C.X.N.Nodup) (hc : C.X.calm = true) (hp : PassesOwn (model C.X.prog C.X.w) C.X.A C.X.env C.X.xe) (hr : Room 11 C.X.A) (tk : Takes C.X C.CW) (hfn : ∀ x, C.X.fn x = true) (hbk : C.X.env.blockKind = .function)
    (b_all : C.X.mg "all" = none)
    (b_isinstance : C.X.mg "isinstance" = none)
    (b_len : C.X.mg "len" = none)
    (b_list : C.X.mg "list" = none)
    (k_MOST_HANDS : ∃ t, C.X.mg "MOST_HANDS" = some (.int 20 t))
    (f_is_ranking : FnG C.X.prog C.X.w C.X.K C.X.mg C.X.base C.W "is_ranking" 7 (aspT xc f_is_ranking))
    (f_have_same_names : FnG C.X.prog C.X.w C.X.K C.X.mg C.X.base C.W "have_same_names" 1 (aspT xc f_have_same_names))
    {cd P : Addr} (TB : GxR.TabB C.X.base C.X.mg cd P) (hPT : P ∈ C.W.T) (hcode : C.X.env.code = .ref cd)
    : SndSs C xc (defBody sis_folk) t_is_folk := by
  have n0 : Nm C.X 0 "thing" := nm_of hN hS rfl (by first | exact .inl rfl | exact .inr (.inl rfl)) rfl rfl
  try have m0 : Lm C.X 0 "thing" := lm_of hN hS rfl (.inl rfl) (.inr rfl)
  try have m0 : Lm C.X 0 "thing" := lm_of hN hS rfl (.inr rfl) (.inl (hfn _))
  have i1 : Ix C 1 "ranking" := ix_of hN rfl
  have z_all : Bl C.X "all" := ⟨gl_of hS rfl, b_all⟩
  have z_isinstance : Bl C.X "isinstance" := ⟨gl_of hS rfl, b_isinstance⟩
  have z_len : Bl C.X "len" := ⟨gl_of hS rfl, b_len⟩
  have z_list : Bl C.X "list" := ⟨gl_of hS rfl, b_list⟩
  have kk_MOST_HANDS : Gl C.X "MOST_HANDS" ∧ (∃ t, C.X.mg "MOST_HANDS" = some (.int 20 t)) ∧ (("MOST_HANDS" : Str) == ("__debug__" : Str)) = false := ⟨gl_of hS rfl, k_MOST_HANDS, rfl⟩
  unfold t_is_folk
  walk_at "comp"
theorem sd_are_names_of {C : Cn} {xc : Str → Addr} (hN : C.X.N = (["ranking", "some", "name"] : List Str)) (hS : C.X.env.scope = defScope sare_names_of) (nd : C.X.N.Nodup) (hc : C.X.calm = true) (hp : PassesOwn (model C.X.prog C.X.w) C.X.A C.X.env C.X.xe) (hr : Room 5 C.X.A) (tk : Takes C.X C.CW) (hfn : ∀ x, C.X.fn x = true) (hbk : C.X.env.blockKind = .function)
    (b_all : C.X.mg "all" = none)
    (f_is_whole : FnG C.X.prog C.X.w C.X.K C.X.mg C.X.base C.W "is_whole" 1 (aspT xc f_is_whole))
    {cd P : Addr} (TB : GxR.TabB C.X.base C.X.mg cd P) (hPT : P ∈ C.W.T) (hcode : C.X.env.code = .ref cd)
    : SndSs C xc (defBody sare_names_of) t_are_names_of := by
  have n0 : Nm C.X 0 "ranking" := nm_of hN hS rfl (by first | exact .inl rfl | exact .inr (.inl rfl)) rfl rfl
  try have m0 : Lm C.X 0 "ranking" := lm_of hN hS rfl (.inl rfl) (.inr rfl)
  try have m0 : Lm C.X 0 "ranking" := lm_of hN hS rfl (.inr rfl) (.inl (hfn _))
  have n1 : Nm C.X 1 "some" := nm_of hN hS rfl (by first | exact .inl rfl | exact .inr (.inl rfl)) rfl rfl
  try have m1 : Lm C.X 1 "some" := lm_of hN hS rfl (.inl rfl) (.inr rfl)
  try have m1 : Lm C.X 1 "some" := lm_of hN hS rfl (.inr rfl) (.inl (hfn _))
  have i2 : Ix C 2 "name" := ix_of hN rfl
  have z_all : Bl C.X "all" := ⟨gl_of hS rfl, b_all⟩
  unfold t_are_names_of
  walk_at "comp"
end KX

set_option Elab.async false
set_option linter.all false
set_option maxRecDepth 100000
set_option maxHeartbeats 4000000
namespace KX
open PySem PySem.Spec PyProof.Rows L2 M
local macro_rules | `(tactic| walk_at "nm") => `(tactic| first
  | assumption
  | exact nm_tr (by assumption)
  | exact nm_blk (by first | assumption | exact Nm.hN (by assumption)) (by first | exact .inl rfl | exact .inr (.inl rfl) | exact vis_rel rfl) rfl rfl
  | exact nm_gen (by first | assumption | exact Nm.hN (by assumption)) (by first | exact .inl rfl | exact .inr (.inl rfl) | exact .inr (.inr rfl)) rfl rfl)
local macro_rules | `(tactic| walk_at "bl") => `(tactic| first
  | assumption
  | exact ⟨rfl, by assumption⟩
  | exact ⟨Bl.hg (by assumption), Bl.hm (by assumption)⟩)
local macro_rules | `(tactic| walk_at "ix") => `(tactic| first | assumption | exact Nm.hN (by assumption))
local macro_rules | `(tactic| walk_at "tk") => `(tactic| first | assumption | exact takes_false fun _ _ _ z => z)
local macro_rules | `(tactic| walk_at "rm") => `(tactic| first | assumption)
local macro_rules | `(tactic| walk_at "cl") => `(tactic| first
  | (with_reducible assumption)
  | exact clN_blk (by with_reducible assumption) rfl
  | exact clN_blk2 (by with_reducible assumption) rfl
  | exact gl_gen (by with_reducible assumption) (by assumption) (by decide) rfl rfl
  | exact clN_tr (by with_reducible assumption) (gl_of (by assumption) rfl))
local macro_rules | `(tactic| walk_at "bk") => `(tactic| first
  | exact blk_of (by assumption) (by assumption) (by decide +kernel)
  | exact blk_of (by assumption) (relS_of (by assumption)) (by decide +kernel))
local macro_rules | `(tactic| walk_at "lv") => `(tactic| first | exact fun _ => ⟨.inl rfl, rfl⟩ | rfl)
local macro_rules | `(tactic| walk_at "ints") => `(tactic| (intro _ _ _ _ _))
local macro_rules | `(tactic| walk_at "comp") => `(tactic| repeat' (first
  | (with_reducible exact sds_nil)
  | (with_reducible exact sd_no)
  | (with_reducible exact snd_no)
  | (with_reducible refine' sds_frz ?_)
  | (with_reducible refine' sds_cons ?_ ?_)
  | ((with_reducible refine' sds_open ?_ ?_); rotate_left 3; exact rfl)
  | ((with_reducible refine' snd_var ?_); walk_at "nm")
  | (with_reducible exact snd_int)
  | (with_reducible exact snd_bool)
  | (with_reducible exact snd_none)
  | (with_reducible exact snd_str)
  | ((with_reducible refine' snd_globI ?_); first | assumption | exact ⟨rfl, by assumption, rfl⟩)
  | ((with_reducible refine' snd_kd ?_); first | assumption | exact ⟨rfl, rfl, by assumption⟩)
  | (with_reducible refine' snd_add ?_ ?_)
  | (with_reducible refine' snd_sub ?_ ?_)
  | (with_reducible refine' snd_mul ?_ ?_)
  | (with_reducible refine' snd_fdiv ?_ ?_)
  | (with_reducible refine' snd_mod ?_ ?_)
  | (with_reducible refine' snd_pow ?_ ?_)
  | (with_reducible refine' snd_shl ?_ ?_)
  | (with_reducible refine' snd_shr ?_ ?_)
  | (with_reducible refine' snd_band ?_ ?_)
  | (with_reducible refine' snd_neg ?_)
  | (with_reducible refine' snd_lt ?_ ?_)
  | (with_reducible refine' snd_le ?_ ?_)
  | (with_reducible refine' snd_gt ?_ ?_)
  | (with_reducible refine' snd_ge ?_ ?_)
  | ((with_reducible refine' snd_eq ?_ ?_ ?_); rotate_left 1; assumption)
  | ((with_reducible refine' snd_ne ?_ ?_ ?_); rotate_left 1; assumption)
  | ((with_reducible refine' snd_in ?_ ?_ ?_ ?_); rotate_left 1; assumption; rfl)
  | ((with_reducible refine' snd_ni ?_ ?_ ?_ ?_); rotate_left 1; assumption; rfl)
  | (with_reducible refine' snd_isN ?_)
  | (with_reducible refine' snd_isNn ?_)
  | (with_reducible refine' sdT_bor ?_)
  | (with_reducible refine' snd_bor ?_)
  | (with_reducible refine' sdT_lt ?_ ?_)
  | (with_reducible refine' sdT_le ?_ ?_)
  | (with_reducible refine' sdT_gt ?_ ?_)
  | (with_reducible refine' sdT_ge ?_ ?_)
  | ((with_reducible refine' sdT_eq ?_ ?_ ?_); rotate_left 1; assumption)
  | ((with_reducible refine' sdT_ne ?_ ?_ ?_); rotate_left 1; assumption)
  | ((with_reducible refine' sdT_in ?_ ?_ ?_ ?_); rotate_left 1; assumption; rfl)
  | ((with_reducible refine' sdT_ni ?_ ?_ ?_ ?_); rotate_left 1; assumption; rfl)
  | (with_reducible refine' sdT_isN ?_)
  | (with_reducible refine' sdT_isNn ?_)
  | (with_reducible refine' snd_chLe rfl ?_ ?_ ?_)
  | (with_reducible refine' sdT_chLe rfl ?_ ?_ ?_)
  | (with_reducible refine' sdT_chLeLt rfl ?_ ?_ ?_)
  | (with_reducible refine' sdT_not ?_)
  | (with_reducible refine' sdW_one ?_)
  | (with_reducible refine' sdW_and ?_ ?_)
  | (with_reducible refine' sdW_or ?_ ?_)
  | (with_reducible refine' sdT_bop ?_)
  | (with_reducible refine' sdT_call ?_)
  | (with_reducible refine' sdT_name ?_)
  | (with_reducible refine' snd_one ?_)
  | (with_reducible refine' snd_and ?_ ?_)
  | (with_reducible refine' snd_or ?_ ?_)
  | (with_reducible refine' snd_not ?_)
  | (with_reducible refine' snd_if ?_ ?_ ?_)
  | (with_reducible exact sdA_nil)
  | ((with_reducible refine' sdA_cons ?_ ?_ ?_); rotate_left 2; exact rfl)
  | (with_reducible refine' snd_lst ?_)
  | (with_reducible refine' snd_tup ?_)
  | ((with_reducible refine' snd_len ?_ ?_ ?_ ?_); (walk_at "bl"); rotate_left 1; exact rfl; exact rfl)
  | ((with_reducible refine' snd_abs ?_ ?_ ?_ ?_); (walk_at "bl"); rotate_left 1; exact rfl; exact rfl)
  | ((with_reducible refine' snd_list ?_ ?_ ?_ ?_); (walk_at "bl"); rotate_left 1; exact rfl; exact rfl)
  | ((with_reducible refine' snd_sorted ?_ ?_ ?_ ?_ ?_); rotate_left 1; assumption; (walk_at "bl"); rotate_left 1; exact rfl; exact rfl)
  | ((with_reducible refine' snd_max1 ?_ ?_ ?_ ?_); assumption; (walk_at "bl"); rotate_left 1; exact rfl)
  | ((with_reducible refine' snd_min1 ?_ ?_ ?_ ?_); assumption; (walk_at "bl"); rotate_left 1; exact rfl)
  | ((with_reducible refine' snd_max2 ?_ ?_ ?_ ?_ ?_); assumption; (walk_at "bl"); rotate_left 1; exact rfl; exact rfl)
  | ((with_reducible refine' snd_min2 ?_ ?_ ?_ ?_ ?_); assumption; (walk_at "bl"); rotate_left 1; exact rfl; exact rfl)
  | ((with_reducible refine' snd_sum ?_ ?_ ?_ ?_); assumption; (walk_at "bl"); rotate_left 1; exact rfl)
  | ((with_reducible refine' snd_intB ?_ ?_ ?_); (walk_at "bl"); rotate_left 1; exact rfl)
  | ((with_reducible refine' snd_isi kit_int ?_ ?_ ?_ ?_ ?_ ?_); (walk_at "bl"); (walk_at "bl"); rotate_left 1; exact rfl; exact rfl; exact rfl)
  | ((with_reducible refine' snd_isi kit_bool ?_ ?_ ?_ ?_ ?_ ?_); (walk_at "bl"); (walk_at "bl"); rotate_left 1; exact rfl; exact rfl; exact rfl)
  | ((with_reducible refine' snd_isi kit_list ?_ ?_ ?_ ?_ ?_ ?_); (walk_at "bl"); (walk_at "bl"); rotate_left 1; exact rfl; exact rfl; exact rfl)
  | ((with_reducible refine' snd_isi kit_tuple ?_ ?_ ?_ ?_ ?_ ?_); (walk_at "bl"); (walk_at "bl"); rotate_left 1; exact rfl; exact rfl; exact rfl)
  | ((with_reducible refine' snd_isi kit_str ?_ ?_ ?_ ?_ ?_ ?_); (walk_at "bl"); (walk_at "bl"); rotate_left 1; exact rfl; exact rfl; exact rfl)
  | ((with_reducible refine' snd_isVE ?_ ?_ ?_ ?_ ?_ ?_ ?_); (walk_at "bl"); (walk_at "bl"); assumption; rotate_left 1; exact rfl; exact rfl; exact rfl)
  | ((with_reducible refine' snd_isX ?_ ?_ ?_ ?_ ?_ ?_ ?_ ?_ ?_); (walk_at "bl"); assumption; decide; (first | exact gl_of (by assumption) rfl | exact rfl); rfl; rotate_left 1; exact rfl; exact rfl; exact rfl)
  | ((with_reducible refine' snd_tupleL ?_ ?_ ?_); (walk_at "bl"); rotate_left 1; exact rfl)
  | ((with_reducible refine' snd_lenSet ?_ ?_ ?_ ?_ ?_); (walk_at "bl"); (walk_at "bl"); assumption; rotate_left 1; exact rfl)
  | ((with_reducible refine' snd_lenO ?_ ?_ ?_); (walk_at "bl"); (walk_at "nm"); exact rfl)
  | ((with_reducible refine' snd_ixO ?_ ?_ ?_); (walk_at "nm"); (intro _ _; rfl))
  | ((with_reducible refine' snd_ix ?_ ?_ ?_); (intro _ _; rfl))
  | ((with_reducible refine' snd_ixD ?_ ?_ ?_ ?_); rotate_left 1; assumption; (intro _ _; rfl))
  | ((with_reducible refine' snd_index ?_ ?_ ?_ ?_ ?_ ?_); rotate_left 2; exact rfl; exact rfl; exact rfl; exact rfl)
  | (with_reducible exact sdO_none)
  | (with_reducible refine' sdO_some ?_)
  | (with_reducible refine' snd_slice ?_ ?_ ?_)
  | (with_reducible refine' snd_rev ?_)
  | ((with_reducible refine' snd_call ?_ ?_ ?_ ?_ ?_); (walk_at "cl"); (walk_at "tk"); rotate_left 1; exact rfl; exact rfl)
  | ((with_reducible refine' snd_lc10 ?_ ?_ ?_ ?_ ?_ ?_ ?_ ?_); assumption; assumption; (walk_at "ix"); (walk_at "bk"); rotate_left 2; (walk_at "lv"); (intro _; rfl); rotate_left 1; (walk_at "ints"))
  | ((with_reducible refine' snd_lc11 ?_ ?_ ?_ ?_ ?_ ?_ ?_ ?_ ?_); assumption; assumption; (walk_at "ix"); (walk_at "bk"); rotate_left 3; (walk_at "lv"); (intro _; rfl); rotate_left 1; (walk_at "ints"); rotate_left 1; (walk_at "ints"))
  | ((with_reducible refine' snd_lc20 ?_ ?_ ?_ ?_ ?_ ?_ ?_ ?_ ?_ ?_); assumption; assumption; (walk_at "ix"); (walk_at "ix"); (walk_at "bk"); rotate_left 2; (walk_at "lv"); (walk_at "lv"); (intro _; rfl); rotate_left 1; (walk_at "ints"))
  | ((with_reducible refine' snd_lc21 ?_ ?_ ?_ ?_ ?_ ?_ ?_ ?_ ?_ ?_ ?_); assumption; assumption; (walk_at "ix"); (walk_at "ix"); (walk_at "bk"); rotate_left 3; (walk_at "lv"); (walk_at "lv"); (intro _; rfl); rotate_left 1; (walk_at "ints"); rotate_left 1; (walk_at "ints"))
  | ((with_reducible refine' snd_dc2 ?_ ?_ ?_ ?_ ?_ ?_ ?_ ?_ ?_ ?_ ?_); assumption; assumption; (walk_at "ix"); (walk_at "ix"); (walk_at "bk"); rotate_left 3; (walk_at "lv"); (walk_at "lv"); (intro _; rfl); rotate_left 1; (walk_at "ints"); rotate_left 1; (walk_at "ints"))
  | ((with_reducible refine' sdI_rg1 ?_ ?_ ?_ ?_); (walk_at "bl"); rotate_left 1; exact rfl; exact rfl)
  | ((with_reducible refine' sdI_rg2 ?_ ?_ ?_ ?_ ?_ ?_ ?_); (walk_at "bl"); rotate_left 2; exact rfl; exact rfl; exact rfl; exact rfl)
  | ((with_reducible refine' sdI_en ?_ ?_ ?_ ?_); (walk_at "bl"); rotate_left 1; exact rfl; exact rfl)
  | ((with_reducible refine' sdI_zip ?_ ?_ ?_ ?_ ?_ ?_); (walk_at "bl"); rotate_left 2; exact rfl; exact rfl; exact rfl)
  | ((with_reducible refine' sdI_rev ?_ ?_ ?_ ?_); (walk_at "bl"); rotate_left 1; exact rfl; exact rfl)
  | (with_reducible refine' sdI_tup ?_)
  | (with_reducible refine' sdI_list ?_)
  | (with_reducible refine' sdF_bor ?_)
  | (with_reducible refine' sdF_lst ?_)
  | ((with_reducible refine' sdF_list ?_ ?_ ?_ ?_); (walk_at "bl"); rotate_left 1; exact rfl; exact rfl)
  | (with_reducible refine' sdF_slice ?_ ?_ ?_)
  | (with_reducible refine' sdF_rev ?_)
  | ((with_reducible refine' snd_gen10 csm_sum ?_ ?_ ?_ ?_ ?_ ?_ ?_ ?_ ?_ ?_ ?_ ?_ ?_ ?_ ?_ ?_ ?_ ?_); walk_at "gen1")
  | ((with_reducible refine' snd_gen10 csm_min ?_ ?_ ?_ ?_ ?_ ?_ ?_ ?_ ?_ ?_ ?_ ?_ ?_ ?_ ?_ ?_ ?_ ?_); walk_at "gen1")
  | ((with_reducible refine' snd_gen10 csm_all ?_ ?_ ?_ ?_ ?_ ?_ ?_ ?_ ?_ ?_ ?_ ?_ ?_ ?_ ?_ ?_ ?_ ?_); walk_at "gen1")
  | ((with_reducible refine' snd_gen10 csm_any ?_ ?_ ?_ ?_ ?_ ?_ ?_ ?_ ?_ ?_ ?_ ?_ ?_ ?_ ?_ ?_ ?_ ?_); walk_at "gen1")
  | ((with_reducible refine' snd_gen20 csm_sum ?_ ?_ ?_ ?_ ?_ ?_ ?_ ?_ ?_ ?_ ?_ ?_ ?_ ?_ ?_ ?_ ?_ ?_ ?_ ?_); walk_at "gen2")
  | ((with_reducible refine' snd_gen20 csm_all ?_ ?_ ?_ ?_ ?_ ?_ ?_ ?_ ?_ ?_ ?_ ?_ ?_ ?_ ?_ ?_ ?_ ?_ ?_ ?_); walk_at "gen2")
  | ((with_reducible refine' snd_gen20 csm_any ?_ ?_ ?_ ?_ ?_ ?_ ?_ ?_ ?_ ?_ ?_ ?_ ?_ ?_ ?_ ?_ ?_ ?_ ?_ ?_); walk_at "gen2")
  | ((with_reducible refine' snd_gen21 csm_sum ?_ ?_ ?_ ?_ ?_ ?_ ?_ ?_ ?_ ?_ ?_ ?_ ?_ ?_ ?_ ?_ ?_ ?_ ?_ ?_ ?_); walk_at "gen3")
  | (with_reducible refine' sd_ret ?_)
  | (with_reducible exact sd_retN)
  | (with_reducible refine' sd_if ?_ ?_ ?_)
  | (with_reducible exact sd_bk)
  | (with_reducible exact sd_ct)
  | (with_reducible exact sd_pass)
  | ((with_reducible refine' sd_asgLc10 ?_ ?_ ?_ ?_ ?_ ?_ ?_ ?_ ?_ ?_ ?_); assumption; assumption; (walk_at "ix"); (walk_at "ix"); (exact hyl_of (by assumption) (by decide +kernel)); (exact swp_t (by assumption) (by assumption) rfl rfl rfl); (walk_at "bk"); rotate_left 2; (walk_at "lv"); (intro _; rfl); rotate_left 1; (walk_at "ints"))
  | ((with_reducible refine' sd_asgLc11 ?_ ?_ ?_ ?_ ?_ ?_ ?_ ?_ ?_ ?_ ?_ ?_); assumption; assumption; (walk_at "ix"); (walk_at "ix"); (exact hyl_of (by assumption) (by decide +kernel)); (exact swp_t (by assumption) (by assumption) rfl rfl rfl); (walk_at "bk"); rotate_left 3; (walk_at "lv"); (intro _; rfl); rotate_left 1; (walk_at "ints"); rotate_left 1; (walk_at "ints"))
  | ((with_reducible refine' sd_asgLc20 ?_ ?_ ?_ ?_ ?_ ?_ ?_ ?_ ?_ ?_ ?_ ?_ ?_); assumption; assumption; (walk_at "ix"); (walk_at "ix"); (exact hyl_of (by assumption) (by decide +kernel)); (walk_at "ix"); (exact swp_t (by assumption) (by assumption) rfl rfl rfl); (walk_at "bk"); rotate_left 2; (walk_at "lv"); (walk_at "lv"); (intro _; rfl); rotate_left 1; (walk_at "ints"))
  | ((with_reducible refine' sd_asgLc21 ?_ ?_ ?_ ?_ ?_ ?_ ?_ ?_ ?_ ?_ ?_ ?_ ?_ ?_); assumption; assumption; (walk_at "ix"); (walk_at "ix"); (exact hyl_of (by assumption) (by decide +kernel)); (walk_at "ix"); (exact swp_t (by assumption) (by assumption) rfl rfl rfl); (walk_at "bk"); rotate_left 3; (walk_at "lv"); (walk_at "lv"); (intro _; rfl); rotate_left 1; (walk_at "ints"); rotate_left 1; (walk_at "ints"))
  | ((with_reducible refine' sd_asg ?_ ?_ ?_ ?_); assumption; assumption; rotate_left 1; (first | exact rfl | ((refine' swp_f ?_ ?_); rotate_left 1; assumption; exact rfl) | ((refine' swp_f ?_ ?_); rotate_left 1; assumption; decide +kernel)))
  | ((with_reducible refine' sd_own ?_ ?_ ?_ ?_); assumption; assumption; rotate_left 1; exact rfl)
  | ((with_reducible refine' sd_appPop ?_ ?_ ?_ ?_ ?_ ?_ ?_ ?_ ?_ ?_ ?_ ?_); (walk_at "nm"); (walk_at "nm"); rotate_left 1; exact rfl; exact rfl; exact rfl; exact rfl; exact rfl; exact rfl; exact rfl; exact rfl; exact rfl)
  | ((with_reducible refine' sd_app ?_ ?_ ?_ ?_ ?_ ?_ ?_); (walk_at "nm"); rotate_left 1; exact rfl; exact rfl; exact rfl; exact rfl; exact rfl)
  | ((with_reducible refine' sd_ins ?_ ?_ ?_ ?_ ?_ ?_ ?_ ?_ ?_ ?_); (walk_at "nm"); rotate_left 2; exact rfl; exact rfl; exact rfl; exact rfl; exact rfl; exact rfl; exact rfl)
  | ((with_reducible refine' sd_setO ?_ ?_ ?_ ?_ ?_ ?_ ?_); (walk_at "nm"); rotate_left 2; exact rfl; exact rfl; exact rfl; (intro _; rfl))
  | ((with_reducible refine' sd_for1 ?_ ?_ ?_ ?_ ?_ ?_ ?_); assumption; assumption; assumption; assumption; rotate_left 2; (intro _; rfl))
  | ((with_reducible refine' sd_for2 ?_ ?_ ?_ ?_ ?_ ?_ ?_ ?_); assumption; assumption; assumption; assumption; assumption; rotate_left 2; (intro _; rfl))
  | ((with_reducible refine' sd_while ?_ ?_ ?_); assumption)
  | ((with_reducible refine' sd_aug ip_add ?_ ?_ ?_); assumption; assumption)
  | ((with_reducible refine' sd_aug ip_sub ?_ ?_ ?_); assumption; assumption)
  | ((with_reducible refine' sd_asg2 ?_ ?_ ?_ ?_ ?_ ?_); assumption; assumption; assumption; rotate_left 1; exact rfl; exact rfl)
  | ((with_reducible refine' sd_par2 ?_ ?_ ?_ ?_ ?_ ?_ ?_ ?_ ?_ ?_); assumption; assumption; assumption; assumption; decide; (exact hyl_of (by assumption) (by decide +kernel)); (exact hyl_of (by assumption) (by decide +kernel)); rotate_left 1; exact rfl; exact rfl)
  | ((with_reducible refine' sd_un2 ?_ ?_ ?_ ?_ ?_ ?_ ?_ ?_); assumption; assumption; assumption; assumption; rotate_left 1; exact rfl; exact rfl; exact rfl)
  | ((with_reducible refine' sd_raise ?_ ?_ ?_ ?_ ?_ ?_ ?_); rotate_left 1; assumption; (walk_at "tk"); assumption; decide; decide; (exact gl_of (by assumption) rfl); decide)
  | ((with_reducible refine' sd_try ?_ ?_ ?_ ?_ ?_ ?_ ?_ ?_ ?_ ?_ ?_ ?_ ?_); assumption; assumption; (walk_at "tk"); (walk_at "nm"); (exact hyl_of (by assumption) (by decide +kernel)); assumption; (exact hyl_of (by assumption) (by decide +kernel)); assumption; (exact gl_of (by assumption) rfl); rotate_left 1; decide; (exact hyl_of (by assumption) (by decide +kernel)); exact rfl; (intro _ _ _ _ _ _ _))
  | ((with_reducible refine' sd_expr ?_ ?_); rotate_left 1; exact rfl)
  | fail))
local macro_rules | `(tactic| walk_at "gen0") => `(tactic| (skip))
local macro_rules | `(tactic| walk_at "gens") => `(tactic| exact ⟨rfl, rfl, by decide +kernel, rfl⟩)
local macro_rules | `(tactic| walk_at "boot") => `(tactic| first | exact boot_sum1 | exact boot_all1 | exact boot_any1 | exact boot_min1)
local macro_rules | `(tactic| walk_at "gen1") => `(tactic| (rotate_left 3; assumption; (walk_at "bl"); (walk_at "boot"); assumption; assumption; assumption; assumption; assumption; (walk_at "ix"); (walk_at "bk"); (walk_at "gens"); rotate_left 2; (walk_at "lv"); (intro _; rfl); exact rfl; decide; decide; rotate_left 1; (intro _ _ _ _ _ _ _ _ _)))
local macro_rules | `(tactic| walk_at "gen2") => `(tactic| (rotate_left 3; assumption; (walk_at "bl"); (walk_at "boot"); assumption; assumption; assumption; assumption; assumption; (walk_at "ix"); (walk_at "ix"); (walk_at "bk"); (walk_at "gens"); rotate_left 2; (walk_at "lv"); (walk_at "lv"); (intro _; rfl); exact rfl; decide; decide; rotate_left 1; (intro _ _ _ _ _ _ _ _ _)))
local macro_rules | `(tactic| walk_at "gen3") => `(tactic| (rotate_left 3; assumption; (walk_at "bl"); (walk_at "boot"); assumption; assumption; assumption; assumption; assumption; (walk_at "ix"); (walk_at "ix"); (walk_at "bk"); (walk_at "gens"); rotate_left 3; (walk_at "lv"); (walk_at "lv"); (intro _; rfl); exact rfl; decide; decide; rotate_left 1; (intro _ _ _ _ _ _ _ _ _); rotate_left 1; (intro _ _ _ _ _ _ _ _ _)))

theorem sd_are_two_names {C : Cn} {xc : Str → Addr} (hN : C.X.N = (["ranking", "one", "other"] : List Str)) (hS : C.X.env.scope = defScope sare_two_names) (nd : C.X.N.Nodup) (hc : C.X.calm = true) (hp : PassesOwn (model C.X.prog C.X.w) C.X.A C.X.env C.X.xe) (hr : Room 6 C.X.A) (tk : Takes C.X C.CW) (hfn : ∀ x, C.X.fn x = true) (hbk : C.X.env.blockKind = .function)
    (c_are_names_of : ClN C "are_names_of" (aspT xc f_are_names_of))
    : SndSs C xc (defBody sare_two_names) t_are_two_names := by
  have n0 : Nm C.X 0 "ranking" := nm_of hN hS rfl (by first | exact .inl rfl | exact .inr (.inl rfl)) rfl rfl
  try have m0 : Lm C.X 0 "ranking" := lm_of hN hS rfl (.inl rfl) (.inr rfl)
  try have m0 : Lm C.X 0 "ranking" := lm_of hN hS rfl (.inr rfl) (.inl (hfn _))
  have n1 : Nm C.X 1 "one" := nm_of hN hS rfl (by first | exact .inl rfl | exact .inr (.inl rfl)) rfl rfl
  try have m1 : Lm C.X 1 "one" := lm_of hN hS rfl (.inl rfl) (.inr rfl)
  try have m1 : Lm C.X 1 "one" := lm_of hN hS rfl (.inr rfl) (.inl (hfn _))
  have n2 : Nm C.X 2 "other" := nm_of hN hS rfl (by first | exact .inl rfl | exact .inr (.inl rfl)) rfl rfl
  try have m2 : Lm C.X 2 "other" := lm_of hN hS rfl (.inl rfl) (.inr rfl)
  try have m2 : Lm C.X 2 "other" := lm_of hN hS rfl (.inr rfl) (.inl (hfn _))
  have cc_are_names_of : Cl C "are_names_of" (aspT xc f_are_names_of) := clN_top c_are_names_of (gl_of hS rfl)
  unfold t_are_two_names
  walk_at "comp"
theorem sd_check_folk {C : Cn} {xc : Str → Addr} (hN : C.X.N = (["thing"] : List Str)) (hS : C.X.env.scope = defScope scheck_folk) (nd : C.X.N.Nodup) (hc : C.X.calm = true) (hp : PassesOwn (model C.X.prog C.X.w) C.X.A C.X.env C.X.xe) (hr : Room 12 C.X.A) (tk : Takes C.X C.CW) (hfn : ∀ x, C.X.fn x = true) (hbk : C.X.env.blockKind = .function)
    (c_is_folk : ClN C "is_folk" (aspT xc f_is_folk))
    (XK : Xk C.X.K C.X.mg xc xl)
    : SndSs C xc (defBody scheck_folk) t_check_folk := by
  have n0 : Nm C.X 0 "thing" := nm_of hN hS rfl (by first | exact .inl rfl | exact .inr (.inl rfl)) rfl rfl
  try have m0 : Lm C.X 0 "thing" := lm_of hN hS rfl (.inl rfl) (.inr rfl)
  try have m0 : Lm C.X 0 "thing" := lm_of hN hS rfl (.inr rfl) (.inl (hfn _))
  have cc_is_folk : Cl C "is_folk" (aspT xc f_is_folk) := clN_top c_is_folk (gl_of hS rfl)
  unfold t_check_folk
  walk_at "comp"
theorem sd_is_ahead {C : Cn} {xc : Str → Addr} (hN : C.X.N = (["ranking", "one", "other"] : List Str)) (hS : C.X.env.scope = defScope sis_ahead) (nd : C.X.N.Nodup) (hc : C.X.calm = true) (hp : PassesOwn (model C.X.prog C.X.w) C.X.A C.X.env C.X.xe) (hr : Room 0 C.X.A) (tk : Takes C.X C.CW) (hfn : ∀ x, C.X.fn x = true) (hbk : C.X.env.blockKind = .function)
    : SndSs C xc (defBody sis_ahead) t_is_ahead := by
  have n0 : Nm C.X 0 "ranking" := nm_of hN hS rfl (by first | exact .inl rfl | exact .inr (.inl rfl)) rfl rfl
  try have m0 : Lm C.X 0 "ranking" := lm_of hN hS rfl (.inl rfl) (.inr rfl)
  try have m0 : Lm C.X 0 "ranking" := lm_of hN hS rfl (.inr rfl) (.inl (hfn _))
  have n1 : Nm C.X 1 "one" := nm_of hN hS rfl (by first | exact .inl rfl | exact .inr (.inl rfl)) rfl rfl
  try have m1 : Lm C.X 1 "one" := lm_of hN hS rfl (.inl rfl) (.inr rfl)
  try have m1 : Lm C.X 1 "one" := lm_of hN hS rfl (.inr rfl) (.inl (hfn _))
  have n2 : Nm C.X 2 "other" := nm_of hN hS rfl (by first | exact .inl rfl | exact .inr (.inl rfl)) rfl rfl
  try have m2 : Lm C.X 2 "other" := lm_of hN hS rfl (.inl rfl) (.inr rfl)
  try have m2 : Lm C.X 2 "other" := lm_of hN hS rfl (.inr rfl) (.inl (hfn _))
  unfold t_is_ahead
  walk_at "comp"
theorem sd_are_weights {C : Cn} {xc : Str → Addr} (hN : C.X.N = (["thing", "many", "weight"] : List Str)) (hS : C.X.env.scope = defScope sare_weights) (nd : C.X.N.Nodup) (hc : C.X.calm = true) (hp : PassesOwn (model C.X.prog C.X.w) C.X.A C.X.env C.X.xe) (hr : Room 5 C.X.A) (tk : Takes C.X C.CW) (hfn : ∀ x, C.X.fn x = true) (hbk : C.X.env.blockKind = .function)
    (b_all : C.X.mg "all" = none)
    (b_isinstance : C.X.mg "isinstance" = none)
    (b_len : C.X.mg "len" = none)
    (b_list : C.X.mg "list" = none)
    (f_is_whole : FnG C.X.prog C.X.w C.X.K C.X.mg C.X.base C.W "is_whole" 1 (aspT xc f_is_whole))
    {cd P : Addr} (TB : GxR.TabB C.X.base C.X.mg cd P) (hPT : P ∈ C.W.T) (hcode : C.X.env.code = .ref cd)
    : SndSs C xc (defBody sare_weights) t_are_weights := by
  have n0 : Nm C.X 0 "thing" := nm_of hN hS rfl (by first | exact .inl rfl | exact .inr (.inl rfl)) rfl rfl
  try have m0 : Lm C.X 0 "thing" := lm_of hN hS rfl (.inl rfl) (.inr rfl)
  try have m0 : Lm C.X 0 "thing" := lm_of hN hS rfl (.inr rfl) (.inl (hfn _))
  have n1 : Nm C.X 1 "many" := nm_of hN hS rfl (by first | exact .inl rfl | exact .inr (.inl rfl)) rfl rfl
  try have m1 : Lm C.X 1 "many" := lm_of hN hS rfl (.inl rfl) (.inr rfl)
  try have m1 : Lm C.X 1 "many" := lm_of hN hS rfl (.inr rfl) (.inl (hfn _))
  have i2 : Ix C 2 "weight" := ix_of hN rfl
  have z_all : Bl C.X "all" := ⟨gl_of hS rfl, b_all⟩
  have z_isinstance : Bl C.X "isinstance" := ⟨gl_of hS rfl, b_isinstance⟩
  have z_len : Bl C.X "len" := ⟨gl_of hS rfl, b_len⟩
  have z_list : Bl C.X "list" := ⟨gl_of hS rfl, b_list⟩
  unfold t_are_weights
  walk_at "comp"
theorem sd_check_weights {C : Cn} {xc : Str → Addr} (hN : C.X.N = (["folk", "weights"] : List Str)) (hS : C.X.env.scope = defScope scheck_weights) (nd : C.X.N.Nodup) (hc : C.X.calm = true) (hp : PassesOwn (model C.X.prog C.X.w) C.X.A C.X.env C.X.xe) (hr : Room 13 C.X.A) (tk : Takes C.X C.CW) (hfn : ∀ x, C.X.fn x = true) (hbk : C.X.env.blockKind = .function)
    (b_len : C.X.mg "len" = none)
    (c_check_folk : ClN C "check_folk" (aspT xc f_check_folk))
    (c_are_weights : ClN C "are_weights" (aspT xc f_are_weights))
    (XK : Xk C.X.K C.X.mg xc xl)
    : SndSs C xc (defBody scheck_weights) t_check_weights := by
  have n0 : Nm C.X 0 "folk" := nm_of hN hS rfl (by first | exact .inl rfl | exact .inr (.inl rfl)) rfl rfl
  try have m0 : Lm C.X 0 "folk" := lm_of hN hS rfl (.inl rfl) (.inr rfl)
  try have m0 : Lm C.X 0 "folk" := lm_of hN hS rfl (.inr rfl) (.inl (hfn _))
  have n1 : Nm C.X 1 "weights" := nm_of hN hS rfl (by first | exact .inl rfl | exact .inr (.inl rfl)) rfl rfl
  try have m1 : Lm C.X 1 "weights" := lm_of hN hS rfl (.inl rfl) (.inr rfl)
  try have m1 : Lm C.X 1 "weights" := lm_of hN hS rfl (.inr rfl) (.inl (hfn _))
  have z_len : Bl C.X "len" := ⟨gl_of hS rfl, b_len⟩
  have cc_check_folk : Cl C "check_folk" (aspT xc f_check_folk) := clN_top c_check_folk (gl_of hS rfl)
  have cc_are_weights : Cl C "are_weights" (aspT xc f_are_weights) := clN_top c_are_weights (gl_of hS rfl)
  unfold t_check_weights
  walk_at "comp"
theorem sd_count_margin {C : Cn} {xc : Str → Addr} (hN : C.X.N = (["folk", "weights", "one", "other", "ranking", "weight"] : List Str)) (hS : C.X.env.scope = defScope scount_margin) (nd : C.X.N.Nodup) (hc : C.X.calm = true) (hp : PassesOwn (model C.X.prog C.X.w) C.X.A C.X.env C.X.xe) (hr : Room 5 C.X.A) (tk : Takes C.X C.CW) (hfn : ∀ x, C.X.fn x = true) (hbk : C.X.env.blockKind = .function)
    (b_sum : C.X.mg "sum" = none)
    (b_zip : C.X.mg "zip" = none)
    (f_is_ahead : FnG C.X.prog C.X.w C.X.K C.X.mg C.X.base C.W "is_ahead" 1 (aspT xc f_is_ahead))
    {cd P : Addr} (TB : GxR.TabB C.X.base C.X.mg cd P) (hPT : P ∈ C.W.T) (hcode : C.X.env.code = .ref cd)
    : SndSs C xc (defBody scount_margin) t_count_margin := by
  have n0 : Nm C.X 0 "folk" := nm_of hN hS rfl (by first | exact .inl rfl | exact .inr (.inl rfl)) rfl rfl
  try have m0 : Lm C.X 0 "folk" := lm_of hN hS rfl (.inl rfl) (.inr rfl)
  try have m0 : Lm C.X 0 "folk" := lm_of hN hS rfl (.inr rfl) (.inl (hfn _))
  have n1 : Nm C.X 1 "weights" := nm_of hN hS rfl (by first | exact .inl rfl | exact .inr (.inl rfl)) rfl rfl
  try have m1 : Lm C.X 1 "weights" := lm_of hN hS rfl (.inl rfl) (.inr rfl)
  try have m1 : Lm C.X 1 "weights" := lm_of hN hS rfl (.inr rfl) (.inl (hfn _))
  have n2 : Nm C.X 2 "one" := nm_of hN hS rfl (by first | exact .inl rfl | exact .inr (.inl rfl)) rfl rfl
  try have m2 : Lm C.X 2 "one" := lm_of hN hS rfl (.inl rfl) (.inr rfl)
  try have m2 : Lm C.X 2 "one" := lm_of hN hS rfl (.inr rfl) (.inl (hfn _))
  have n3 : Nm C.X 3 "other" := nm_of hN hS rfl (by first | exact .inl rfl | exact .inr (.inl rfl)) rfl rfl
  try have m3 : Lm C.X 3 "other" := lm_of hN hS rfl (.inl rfl) (.inr rfl)
  try have m3 : Lm C.X 3 "other" := lm_of hN hS rfl (.inr rfl) (.inl (hfn _))
  have i4 : Ix C 4 "ranking" := ix_of hN rfl
  have i5 : Ix C 5 "weight" := ix_of hN rfl
  have z_sum : Bl C.X "sum" := ⟨gl_of hS rfl, b_sum⟩
  have z_zip : Bl C.X "zip" := ⟨gl_of hS rfl, b_zip⟩
  unfold t_count_margin
  walk_at "comp"
end KX

set_option Elab.async false
set_option linter.all false
set_option maxRecDepth 100000
set_option maxHeartbeats 4000000
namespace KX
open PySem PySem.Spec PyProof.Rows L2 M
local macro_rules | `(tactic| walk_at "nm") => `(tactic| first
  | assumption
  | exact nm_tr (by assumption)
  | exact nm_blk (by first | assumption | exact Nm.hN (by assumption)) (by first | exact .inl rfl | exact .inr (.inl rfl) | exact vis_rel rfl) rfl rfl
  | exact nm_gen (by first | assumption | exact Nm.hN (by assumption)) (by first | exact .inl rfl | exact .inr (.inl rfl) | exact .inr (.inr rfl)) rfl rfl)
local macro_rules | `(tactic| walk_at "bl") => `(tactic| first
  | assumption
  | exact ⟨rfl, by assumption⟩
  | exact ⟨Bl.hg (by assumption), Bl.hm (by assumption)⟩)
local macro_rules | `(tactic| walk_at "ix") => `(tactic| first | assumption | exact Nm.hN (by assumption))
local macro_rules | `(tactic| walk_at "tk") => `(tactic| first | assumption | exact takes_false fun _ _ _ z => z)
local macro_rules | `(tactic| walk_at "rm") => `(tactic| first | assumption)
local macro_rules | `(tactic| walk_at "cl") => `(tactic| first
  | (with_reducible assumption)
  | exact clN_blk (by with_reducible assumption) rfl
  | exact clN_blk2 (by with_reducible assumption) rfl
  | exact gl_gen (by with_reducible assumption) (by assumption) (by decide) rfl rfl
  | exact clN_tr (by with_reducible assumption) (gl_of (by assumption) rfl))
local macro_rules | `(tactic| walk_at "bk") => `(tactic| first
  | exact blk_of (by assumption) (by assumption) (by decide +kernel)
  | exact blk_of (by assumption) (relS_of (by assumption)) (by decide +kernel))
local macro_rules | `(tactic| walk_at "lv") => `(tactic| first | exact fun _ => ⟨.inl rfl, rfl⟩ | rfl)
local macro_rules | `(tactic| walk_at "ints") => `(tactic| (intro _ _ _ _ _))
local macro_rules | `(tactic| walk_at "comp") => `(tactic| repeat' (first
  | (with_reducible exact sds_nil)
  | (with_reducible exact sd_no)
  | (with_reducible exact snd_no)
  | (with_reducible refine' sds_frz ?_)
  | (with_reducible refine' sds_cons ?_ ?_)
  | ((with_reducible refine' sds_open ?_ ?_); rotate_left 3; exact rfl)
  | ((with_reducible refine' snd_var ?_); walk_at "nm")
  | (with_reducible exact snd_int)
  | (with_reducible exact snd_bool)
  | (with_reducible exact snd_none)
  | (with_reducible exact snd_str)
  | ((with_reducible refine' snd_globI ?_); first | assumption | exact ⟨rfl, by assumption, rfl⟩)
  | ((with_reducible refine' snd_kd ?_); first | assumption | exact ⟨rfl, rfl, by assumption⟩)
  | (with_reducible refine' snd_add ?_ ?_)
  | (with_reducible refine' snd_sub ?_ ?_)
  | (with_reducible refine' snd_mul ?_ ?_)
  | (with_reducible refine' snd_fdiv ?_ ?_)
  | (with_reducible refine' snd_mod ?_ ?_)
  | (with_reducible refine' snd_pow ?_ ?_)
  | (with_reducible refine' snd_shl ?_ ?_)
  | (with_reducible refine' snd_shr ?_ ?_)
  | (with_reducible refine' snd_band ?_ ?_)
  | (with_reducible refine' snd_neg ?_)
  | (with_reducible refine' snd_lt ?_ ?_)
  | (with_reducible refine' snd_le ?_ ?_)
  | (with_reducible refine' snd_gt ?_ ?_)
  | (with_reducible refine' snd_ge ?_ ?_)
  | ((with_reducible refine' snd_eq ?_ ?_ ?_); rotate_left 1; assumption)
  | ((with_reducible refine' snd_ne ?_ ?_ ?_); rotate_left 1; assumption)
  | ((with_reducible refine' snd_in ?_ ?_ ?_ ?_); rotate_left 1; assumption; rfl)
  | ((with_reducible refine' snd_ni ?_ ?_ ?_ ?_); rotate_left 1; assumption; rfl)
  | (with_reducible refine' snd_isN ?_)
  | (with_reducible refine' snd_isNn ?_)
  | (with_reducible refine' sdT_bor ?_)
  | (with_reducible refine' snd_bor ?_)
  | (with_reducible refine' sdT_lt ?_ ?_)
  | (with_reducible refine' sdT_le ?_ ?_)
  | (with_reducible refine' sdT_gt ?_ ?_)
  | (with_reducible refine' sdT_ge ?_ ?_)
  | ((with_reducible refine' sdT_eq ?_ ?_ ?_); rotate_left 1; assumption)
  | ((with_reducible refine' sdT_ne ?_ ?_ ?_); rotate_left 1; assumption)
  | ((with_reducible refine' sdT_in ?_ ?_ ?_ ?_); rotate_left 1; assumption; rfl)
  | ((with_reducible refine' sdT_ni ?_ ?_ ?_ ?_); rotate_left 1; assumption; rfl)
  | (with_reducible refine' sdT_isN ?_)
  | (with_reducible refine' sdT_isNn ?_)
  | (with_reducible refine' snd_chLe rfl ?_ ?_ ?_)
  | (with_reducible refine' sdT_chLe rfl ?_ ?_ ?_)
  | (with_reducible refine' sdT_chLeLt rfl ?_ ?_ ?_)
  | (with_reducible refine' sdT_not ?_)
  | (with_reducible refine' sdW_one ?_)
  | (with_reducible refine' sdW_and ?_ ?_)
  | (with_reducible refine' sdW_or ?_ ?_)
  | (with_reducible refine' sdT_bop ?_)
  | (with_reducible refine' sdT_call ?_)
  | (with_reducible refine' sdT_name ?_)
  | (with_reducible refine' snd_one ?_)
  | (with_reducible refine' snd_and ?_ ?_)
  | (with_reducible refine' snd_or ?_ ?_)
  | (with_reducible refine' snd_not ?_)
  | (with_reducible refine' snd_if ?_ ?_ ?_)
  | (with_reducible exact sdA_nil)
  | ((with_reducible refine' sdA_cons ?_ ?_ ?_); rotate_left 2; exact rfl)
  | (with_reducible refine' snd_lst ?_)
  | (with_reducible refine' snd_tup ?_)
  | ((with_reducible refine' snd_len ?_ ?_ ?_ ?_); (walk_at "bl"); rotate_left 1; exact rfl; exact rfl)
  | ((with_reducible refine' snd_abs ?_ ?_ ?_ ?_); (walk_at "bl"); rotate_left 1; exact rfl; exact rfl)
  | ((with_reducible refine' snd_list ?_ ?_ ?_ ?_); (walk_at "bl"); rotate_left 1; exact rfl; exact rfl)
  | ((with_reducible refine' snd_sorted ?_ ?_ ?_ ?_ ?_); rotate_left 1; assumption; (walk_at "bl"); rotate_left 1; exact rfl; exact rfl)
  | ((with_reducible refine' snd_max1 ?_ ?_ ?_ ?_); assumption; (walk_at "bl"); rotate_left 1; exact rfl)
  | ((with_reducible refine' snd_min1 ?_ ?_ ?_ ?_); assumption; (walk_at "bl"); rotate_left 1; exact rfl)
  | ((with_reducible refine' snd_max2 ?_ ?_ ?_ ?_ ?_); assumption; (walk_at "bl"); rotate_left 1; exact rfl; exact rfl)
  | ((with_reducible refine' snd_min2 ?_ ?_ ?_ ?_ ?_); assumption; (walk_at "bl"); rotate_left 1; exact rfl; exact rfl)
  | ((with_reducible refine' snd_sum ?_ ?_ ?_ ?_); assumption; (walk_at "bl"); rotate_left 1; exact rfl)
  | ((with_reducible refine' snd_intB ?_ ?_ ?_); (walk_at "bl"); rotate_left 1; exact rfl)
  | ((with_reducible refine' snd_isi kit_int ?_ ?_ ?_ ?_ ?_ ?_); (walk_at "bl"); (walk_at "bl"); rotate_left 1; exact rfl; exact rfl; exact rfl)
  | ((with_reducible refine' snd_isi kit_bool ?_ ?_ ?_ ?_ ?_ ?_); (walk_at "bl"); (walk_at "bl"); rotate_left 1; exact rfl; exact rfl; exact rfl)
  | ((with_reducible refine' snd_isi kit_list ?_ ?_ ?_ ?_ ?_ ?_); (walk_at "bl"); (walk_at "bl"); rotate_left 1; exact rfl; exact rfl; exact rfl)
  | ((with_reducible refine' snd_isi kit_tuple ?_ ?_ ?_ ?_ ?_ ?_); (walk_at "bl"); (walk_at "bl"); rotate_left 1; exact rfl; exact rfl; exact rfl)
  | ((with_reducible refine' snd_isi kit_str ?_ ?_ ?_ ?_ ?_ ?_); (walk_at "bl"); (walk_at "bl"); rotate_left 1; exact rfl; exact rfl; exact rfl)
  | ((with_reducible refine' snd_isVE ?_ ?_ ?_ ?_ ?_ ?_ ?_); (walk_at "bl"); (walk_at "bl"); assumption; rotate_left 1; exact rfl; exact rfl; exact rfl)
  | ((with_reducible refine' snd_isX ?_ ?_ ?_ ?_ ?_ ?_ ?_ ?_ ?_); (walk_at "bl"); assumption; decide; (first | exact gl_of (by assumption) rfl | exact rfl); rfl; rotate_left 1; exact rfl; exact rfl; exact rfl)
  | ((with_reducible refine' snd_tupleL ?_ ?_ ?_); (walk_at "bl"); rotate_left 1; exact rfl)
  | ((with_reducible refine' snd_lenSet ?_ ?_ ?_ ?_ ?_); (walk_at "bl"); (walk_at "bl"); assumption; rotate_left 1; exact rfl)
  | ((with_reducible refine' snd_lenO ?_ ?_ ?_); (walk_at "bl"); (walk_at "nm"); exact rfl)
  | ((with_reducible refine' snd_ixO ?_ ?_ ?_); (walk_at "nm"); (intro _ _; rfl))
  | ((with_reducible refine' snd_ix ?_ ?_ ?_); (intro _ _; rfl))
  | ((with_reducible refine' snd_ixD ?_ ?_ ?_ ?_); rotate_left 1; assumption; (intro _ _; rfl))
  | ((with_reducible refine' snd_index ?_ ?_ ?_ ?_ ?_ ?_); rotate_left 2; exact rfl; exact rfl; exact rfl; exact rfl)
  | (with_reducible exact sdO_none)
  | (with_reducible refine' sdO_some ?_)
  | (with_reducible refine' snd_slice ?_ ?_ ?_)
  | (with_reducible refine' snd_rev ?_)
  | ((with_reducible refine' snd_call ?_ ?_ ?_ ?_ ?_); (walk_at "cl"); (walk_at "tk"); rotate_left 1; exact rfl; exact rfl)
  | ((with_reducible refine' snd_lc10 ?_ ?_ ?_ ?_ ?_ ?_ ?_ ?_); assumption; assumption; (walk_at "ix"); (walk_at "bk"); rotate_left 2; (walk_at "lv"); (intro _; rfl); rotate_left 1; (walk_at "ints"))
  | ((with_reducible refine' snd_lc11 ?_ ?_ ?_ ?_ ?_ ?_ ?_ ?_ ?_); assumption; assumption; (walk_at "ix"); (walk_at "bk"); rotate_left 3; (walk_at "lv"); (intro _; rfl); rotate_left 1; (walk_at "ints"); rotate_left 1; (walk_at "ints"))
  | ((with_reducible refine' snd_lc20 ?_ ?_ ?_ ?_ ?_ ?_ ?_ ?_ ?_ ?_); assumption; assumption; (walk_at "ix"); (walk_at "ix"); (walk_at "bk"); rotate_left 2; (walk_at "lv"); (walk_at "lv"); (intro _; rfl); rotate_left 1; (walk_at "ints"))
  | ((with_reducible refine' snd_lc21 ?_ ?_ ?_ ?_ ?_ ?_ ?_ ?_ ?_ ?_ ?_); assumption; assumption; (walk_at "ix"); (walk_at "ix"); (walk_at "bk"); rotate_left 3; (walk_at "lv"); (walk_at "lv"); (intro _; rfl); rotate_left 1; (walk_at "ints"); rotate_left 1; (walk_at "ints"))
  | ((with_reducible refine' snd_dc2 ?_ ?_ ?_ ?_ ?_ ?_ ?_ ?_ ?_ ?_ ?_); assumption; assumption; (walk_at "ix"); (walk_at "ix"); (walk_at "bk"); rotate_left 3; (walk_at "lv"); (walk_at "lv"); (intro _; rfl); rotate_left 1; (walk_at "ints"); rotate_left 1; (walk_at "ints"))
  | ((with_reducible refine' sdI_rg1 ?_ ?_ ?_ ?_); (walk_at "bl"); rotate_left 1; exact rfl; exact rfl)
  | ((with_reducible refine' sdI_rg2 ?_ ?_ ?_ ?_ ?_ ?_ ?_); (walk_at "bl"); rotate_left 2; exact rfl; exact rfl; exact rfl; exact rfl)
  | ((with_reducible refine' sdI_en ?_ ?_ ?_ ?_); (walk_at "bl"); rotate_left 1; exact rfl; exact rfl)
  | ((with_reducible refine' sdI_zip ?_ ?_ ?_ ?_ ?_ ?_); (walk_at "bl"); rotate_left 2; exact rfl; exact rfl; exact rfl)
  | ((with_reducible refine' sdI_rev ?_ ?_ ?_ ?_); (walk_at "bl"); rotate_left 1; exact rfl; exact rfl)
  | (with_reducible refine' sdI_tup ?_)
  | (with_reducible refine' sdI_list ?_)
  | (with_reducible refine' sdF_bor ?_)
  | (with_reducible refine' sdF_lst ?_)
  | ((with_reducible refine' sdF_list ?_ ?_ ?_ ?_); (walk_at "bl"); rotate_left 1; exact rfl; exact rfl)
  | (with_reducible refine' sdF_slice ?_ ?_ ?_)
  | (with_reducible refine' sdF_rev ?_)
  | ((with_reducible refine' snd_gen10 csm_sum ?_ ?_ ?_ ?_ ?_ ?_ ?_ ?_ ?_ ?_ ?_ ?_ ?_ ?_ ?_ ?_ ?_ ?_); walk_at "gen1")
  | ((with_reducible refine' snd_gen10 csm_min ?_ ?_ ?_ ?_ ?_ ?_ ?_ ?_ ?_ ?_ ?_ ?_ ?_ ?_ ?_ ?_ ?_ ?_); walk_at "gen1")
  | ((with_reducible refine' snd_gen10 csm_all ?_ ?_ ?_ ?_ ?_ ?_ ?_ ?_ ?_ ?_ ?_ ?_ ?_ ?_ ?_ ?_ ?_ ?_); walk_at "gen1")
  | ((with_reducible refine' snd_gen10 csm_any ?_ ?_ ?_ ?_ ?_ ?_ ?_ ?_ ?_ ?_ ?_ ?_ ?_ ?_ ?_ ?_ ?_ ?_); walk_at "gen1")
  | ((with_reducible refine' snd_gen20 csm_sum ?_ ?_ ?_ ?_ ?_ ?_ ?_ ?_ ?_ ?_ ?_ ?_ ?_ ?_ ?_ ?_ ?_ ?_ ?_ ?_); walk_at "gen2")
  | ((with_reducible refine' snd_gen20 csm_all ?_ ?_ ?_ ?_ ?_ ?_ ?_ ?_ ?_ ?_ ?_ ?_ ?_ ?_ ?_ ?_ ?_ ?_ ?_ ?_); walk_at "gen2")
  | ((with_reducible refine' snd_gen20 csm_any ?_ ?_ ?_ ?_ ?_ ?_ ?_ ?_ ?_ ?_ ?_ ?_ ?_ ?_ ?_ ?_ ?_ ?_ ?_ ?_); walk_at "gen2")
  | ((with_reducible refine' snd_gen21 csm_sum ?_ ?_ ?_ ?_ ?_ ?_ ?_ ?_ ?_ ?_ ?_ ?_ ?_ ?_ ?_ ?_ ?_ ?_ ?_ ?_ ?_); walk_at "gen3")
  | (with_reducible refine' sd_ret ?_)
  | (with_reducible exact sd_retN)
  | (with_reducible refine' sd_if ?_ ?_ ?_)
  | (with_reducible exact sd_bk)
  | (with_reducible exact sd_ct)
  | (with_reducible exact sd_pass)
  | ((with_reducible refine' sd_asgLc10 ?_ ?_ ?_ ?_ ?_ ?_ ?_ ?_ ?_ ?_ ?_); assumption; assumption; (walk_at "ix"); (walk_at "ix"); (exact hyl_of (by assumption) (by decide +kernel)); (exact swp_t (by assumption) (by assumption) rfl rfl rfl); (walk_at "bk"); rotate_left 2; (walk_at "lv"); (intro _; rfl); rotate_left 1; (walk_at "ints"))
  | ((with_reducible refine' sd_asgLc11 ?_ ?_ ?_ ?_ ?_ ?_ ?_ ?_ ?_ ?_ ?_ ?_); assumption; assumption; (walk_at "ix"); (walk_at "ix"); (exact hyl_of (by assumption) (by decide +kernel)); (exact swp_t (by assumption) (by assumption) rfl rfl rfl); (walk_at "bk"); rotate_left 3; (walk_at "lv"); (intro _; rfl); rotate_left 1; (walk_at "ints"); rotate_left 1; (walk_at "ints"))
  | ((with_reducible refine' sd_asgLc20 ?_ ?_ ?_ ?_ ?_ ?_ ?_ ?_ ?_ ?_ ?_ ?_ ?_); assumption; assumption; (walk_at "ix"); (walk_at "ix"); (exact hyl_of (by assumption) (by decide +kernel)); (walk_at "ix"); (exact swp_t (by assumption) (by assumption) rfl rfl rfl); (walk_at "bk"); rotate_left 2; (walk_at "lv"); (walk_at "lv"); (intro _; rfl); rotate_left 1; (walk_at "ints"))
  | ((with_reducible refine' sd_asgLc21 ?_ ?_ ?_ ?_ ?_ ?_ ?_ ?_ ?_ ?_ ?_ ?_ ?_ ?_); assumption; assumption; (walk_at "ix"); (walk_at "ix"); (exact hyl_of (by assumption) (by decide +kernel)); (walk_at "ix"); (exact swp_t (by assumption) (by assumption) rfl rfl rfl); (walk_at "bk"); rotate_left 3; (walk_at "lv"); (walk_at "lv"); (intro _; rfl); rotate_left 1; (walk_at "ints"); rotate_left 1; (walk_at "ints"))
  | ((with_reducible refine' sd_asg ?_ ?_ ?_ ?_); assumption; assumption; rotate_left 1; (first | exact rfl | ((refine' swp_f ?_ ?_); rotate_left 1; assumption; exact rfl) | ((refine' swp_f ?_ ?_); rotate_left 1; assumption; decide +kernel)))
  | ((with_reducible refine' sd_own ?_ ?_ ?_ ?_); assumption; assumption; rotate_left 1; exact rfl)
  | ((with_reducible refine' sd_appPop ?_ ?_ ?_ ?_ ?_ ?_ ?_ ?_ ?_ ?_ ?_ ?_); (walk_at "nm"); (walk_at "nm"); rotate_left 1; exact rfl; exact rfl; exact rfl; exact rfl; exact rfl; exact rfl; exact rfl; exact rfl; exact rfl)
  | ((with_reducible refine' sd_app ?_ ?_ ?_ ?_ ?_ ?_ ?_); (walk_at "nm"); rotate_left 1; exact rfl; exact rfl; exact rfl; exact rfl; exact rfl)
  | ((with_reducible refine' sd_ins ?_ ?_ ?_ ?_ ?_ ?_ ?_ ?_ ?_ ?_); (walk_at "nm"); rotate_left 2; exact rfl; exact rfl; exact rfl; exact rfl; exact rfl; exact rfl; exact rfl)
  | ((with_reducible refine' sd_setO ?_ ?_ ?_ ?_ ?_ ?_ ?_); (walk_at "nm"); rotate_left 2; exact rfl; exact rfl; exact rfl; (intro _; rfl))
  | ((with_reducible refine' sd_for1 ?_ ?_ ?_ ?_ ?_ ?_ ?_); assumption; assumption; assumption; assumption; rotate_left 2; (intro _; rfl))
  | ((with_reducible refine' sd_for2 ?_ ?_ ?_ ?_ ?_ ?_ ?_ ?_); assumption; assumption; assumption; assumption; assumption; rotate_left 2; (intro _; rfl))
  | ((with_reducible refine' sd_while ?_ ?_ ?_); assumption)
  | ((with_reducible refine' sd_aug ip_add ?_ ?_ ?_); assumption; assumption)
  | ((with_reducible refine' sd_aug ip_sub ?_ ?_ ?_); assumption; assumption)
  | ((with_reducible refine' sd_asg2 ?_ ?_ ?_ ?_ ?_ ?_); assumption; assumption; assumption; rotate_left 1; exact rfl; exact rfl)
  | ((with_reducible refine' sd_par2 ?_ ?_ ?_ ?_ ?_ ?_ ?_ ?_ ?_ ?_); assumption; assumption; assumption; assumption; decide; (exact hyl_of (by assumption) (by decide +kernel)); (exact hyl_of (by assumption) (by decide +kernel)); rotate_left 1; exact rfl; exact rfl)
  | ((with_reducible refine' sd_un2 ?_ ?_ ?_ ?_ ?_ ?_ ?_ ?_); assumption; assumption; assumption; assumption; rotate_left 1; exact rfl; exact rfl; exact rfl)
  | ((with_reducible refine' sd_raise ?_ ?_ ?_ ?_ ?_ ?_ ?_); rotate_left 1; assumption; (walk_at "tk"); assumption; decide; decide; (exact gl_of (by assumption) rfl); decide)
  | ((with_reducible refine' sd_try ?_ ?_ ?_ ?_ ?_ ?_ ?_ ?_ ?_ ?_ ?_ ?_ ?_); assumption; assumption; (walk_at "tk"); (walk_at "nm"); (exact hyl_of (by assumption) (by decide +kernel)); assumption; (exact hyl_of (by assumption) (by decide +kernel)); assumption; (exact gl_of (by assumption) rfl); rotate_left 1; decide; (exact hyl_of (by assumption) (by decide +kernel)); exact rfl; (intro _ _ _ _ _ _ _))
  | ((with_reducible refine' sd_expr ?_ ?_); rotate_left 1; exact rfl)
  | fail))
local macro_rules | `(tactic| walk_at "gen0") => `(tactic| (skip))
local macro_rules | `(tactic| walk_at "gens") => `(tactic| exact ⟨rfl, rfl, by decide +kernel, rfl⟩)
local macro_rules | `(tactic| walk_at "boot") => `(tactic| first | exact boot_sum1 | exact boot_all1 | exact boot_any1 | exact boot_min1)
local macro_rules | `(tactic| walk_at "gen1") => `(tactic| (rotate_left 3; assumption; (walk_at "bl"); (walk_at "boot"); assumption; assumption; assumption; assumption; assumption; (walk_at "ix"); (walk_at "bk"); (walk_at "gens"); rotate_left 2; (walk_at "lv"); (intro _; rfl); exact rfl; decide; decide; rotate_left 1; (intro _ _ _ _ _ _ _ _ _)))
local macro_rules | `(tactic| walk_at "gen2") => `(tactic| (rotate_left 3; assumption; (walk_at "bl"); (walk_at "boot"); assumption; assumption; assumption; assumption; assumption; (walk_at "ix"); (walk_at "ix"); (walk_at "bk"); (walk_at "gens"); rotate_left 2; (walk_at "lv"); (walk_at "lv"); (intro _; rfl); exact rfl; decide; decide; rotate_left 1; (intro _ _ _ _ _ _ _ _ _)))
local macro_rules | `(tactic| walk_at "gen3") => `(tactic| (rotate_left 3; assumption; (walk_at "bl"); (walk_at "boot"); assumption; assumption; assumption; assumption; assumption; (walk_at "ix"); (walk_at "ix"); (walk_at "bk"); (walk_at "gens"); rotate_left 3; (walk_at "lv"); (walk_at "lv"); (intro _; rfl); exact rfl; decide; decide; rotate_left 1; (intro _ _ _ _ _ _ _ _ _); rotate_left 1; (intro _ _ _ _ _ _ _ _ _)))

theorem sd_margin {C : Cn} {xc : Str → Addr} (hN : C.X.N = (["folk", "weights", "one", "other"] : List Str)) (hS : C.X.env.scope = defScope smargin) (nd : C.X.N.Nodup) (hc : C.X.calm = true) (hp : PassesOwn (model C.X.prog C.X.w) C.X.A C.X.env C.X.xe) (hr : Room 14 C.X.A) (tk : Takes C.X C.CW) (hfn : ∀ x, C.X.fn x = true) (hbk : C.X.env.blockKind = .function)
    (c_check_weights : ClN C "check_weights" (aspT xc f_check_weights))
    (c_are_two_names : ClN C "are_two_names" (aspT xc f_are_two_names))
    (c_count_margin : ClN C "count_margin" (aspT xc f_count_margin))
    (XK : Xk C.X.K C.X.mg xc xl)
    : SndSs C xc (defBody smargin) t_margin := by
  have n0 : Nm C.X 0 "folk" := nm_of hN hS rfl (by first | exact .inl rfl | exact .inr (.inl rfl)) rfl rfl
  try have m0 : Lm C.X 0 "folk" := lm_of hN hS rfl (.inl rfl) (.inr rfl)
  try have m0 : Lm C.X 0 "folk" := lm_of hN hS rfl (.inr rfl) (.inl (hfn _))
  have n1 : Nm C.X 1 "weights" := nm_of hN hS rfl (by first | exact .inl rfl | exact .inr (.inl rfl)) rfl rfl
  try have m1 : Lm C.X 1 "weights" := lm_of hN hS rfl (.inl rfl) (.inr rfl)
  try have m1 : Lm C.X 1 "weights" := lm_of hN hS rfl (.inr rfl) (.inl (hfn _))
  have n2 : Nm C.X 2 "one" := nm_of hN hS rfl (by first | exact .inl rfl | exact .inr (.inl rfl)) rfl rfl
  try have m2 : Lm C.X 2 "one" := lm_of hN hS rfl (.inl rfl) (.inr rfl)
  try have m2 : Lm C.X 2 "one" := lm_of hN hS rfl (.inr rfl) (.inl (hfn _))
  have n3 : Nm C.X 3 "other" := nm_of hN hS rfl (by first | exact .inl rfl | exact .inr (.inl rfl)) rfl rfl
  try have m3 : Lm C.X 3 "other" := lm_of hN hS rfl (.inl rfl) (.inr rfl)
  try have m3 : Lm C.X 3 "other" := lm_of hN hS rfl (.inr rfl) (.inl (hfn _))
  have cc_check_weights : Cl C "check_weights" (aspT xc f_check_weights) := clN_top c_check_weights (gl_of hS rfl)
  have cc_are_two_names : Cl C "are_two_names" (aspT xc f_are_two_names) := clN_top c_are_two_names (gl_of hS rfl)
  have cc_count_margin : Cl C "count_margin" (aspT xc f_count_margin) := clN_top c_count_margin (gl_of hS rfl)
  unfold t_margin
  walk_at "comp"
theorem sd__law_whole {C : Cn} {xc : Str → Addr} (hN : C.X.N = (["_law_found"] : List Str)) (hS : C.X.env.scope = defScope s_law_whole) (nd : C.X.N.Nodup) (hc : C.X.calm = true) (hp : PassesOwn (model C.X.prog C.X.w) C.X.A C.X.env C.X.xe) (hr : Room 0 C.X.A) (tk : Takes C.X C.CW) (hfn : ∀ x, C.X.fn x = true) (hbk : C.X.env.blockKind = .function)
    (b_bool : C.X.mg "bool" = none)
    (b_int : C.X.mg "int" = none)
    (b_isinstance : C.X.mg "isinstance" = none)
    : SndSs C xc (defBody s_law_whole) t__law_whole := by
  have n0 : Nm C.X 0 "_law_found" := nm_of hN hS rfl (by first | exact .inl rfl | exact .inr (.inl rfl)) rfl rfl
  try have m0 : Lm C.X 0 "_law_found" := lm_of hN hS rfl (.inl rfl) (.inr rfl)
  try have m0 : Lm C.X 0 "_law_found" := lm_of hN hS rfl (.inr rfl) (.inl (hfn _))
  have z_bool : Bl C.X "bool" := ⟨gl_of hS rfl, b_bool⟩
  have z_int : Bl C.X "int" := ⟨gl_of hS rfl, b_int⟩
  have z_isinstance : Bl C.X "isinstance" := ⟨gl_of hS rfl, b_isinstance⟩
  unfold t__law_whole
  walk_at "comp"
theorem sd__law_draws {C : Cn} {xc : Str → Addr} (hN : C.X.N = (["_law_script", "_law_j", "_law_many", "_law_cell", "_law_great", "_law_number", "_law_found", "_law_k", "_law_mixed"] : List Str)) (hS : C.X.env.scope = defScope s_law_draws) (nd : C.X.N.Nodup) (hc : C.X.calm = true) (hp : PassesOwn (model C.X.prog C.X.w) C.X.A C.X.env C.X.xe) (hr : Room 0 C.X.A) (tk : Takes C.X C.CW) (hfn : ∀ x, C.X.fn x = true) (hbk : C.X.env.blockKind = .function)
    (b_len : C.X.mg "len" = none)
    (b_min : C.X.mg "min" = none)
    (b_range : C.X.mg "range" = none)
    : SndSs C xc (defBody s_law_draws) t__law_draws := by
  have n0 : Nm C.X 0 "_law_script" := nm_of hN hS rfl (by first | exact .inl rfl | exact .inr (.inl rfl)) rfl rfl
  try have m0 : Lm C.X 0 "_law_script" := lm_of hN hS rfl (.inl rfl) (.inr rfl)
  try have m0 : Lm C.X 0 "_law_script" := lm_of hN hS rfl (.inr rfl) (.inl (hfn _))
  have n1 : Nm C.X 1 "_law_j" := nm_of hN hS rfl (by first | exact .inl rfl | exact .inr (.inl rfl)) rfl rfl
  try have m1 : Lm C.X 1 "_law_j" := lm_of hN hS rfl (.inl rfl) (.inr rfl)
  try have m1 : Lm C.X 1 "_law_j" := lm_of hN hS rfl (.inr rfl) (.inl (hfn _))
  have n2 : Nm C.X 2 "_law_many" := nm_of hN hS rfl (by first | exact .inl rfl | exact .inr (.inl rfl)) rfl rfl
  try have m2 : Lm C.X 2 "_law_many" := lm_of hN hS rfl (.inl rfl) (.inr rfl)
  try have m2 : Lm C.X 2 "_law_many" := lm_of hN hS rfl (.inr rfl) (.inl (hfn _))
  have n3 : Nm C.X 3 "_law_cell" := nm_of hN hS rfl (by first | exact .inl rfl | exact .inr (.inl rfl)) rfl rfl
  try have m3 : Lm C.X 3 "_law_cell" := lm_of hN hS rfl (.inl rfl) (.inr rfl)
  try have m3 : Lm C.X 3 "_law_cell" := lm_of hN hS rfl (.inr rfl) (.inl (hfn _))
  have n4 : Nm C.X 4 "_law_great" := nm_of hN hS rfl (by first | exact .inl rfl | exact .inr (.inl rfl)) rfl rfl
  try have m4 : Lm C.X 4 "_law_great" := lm_of hN hS rfl (.inl rfl) (.inr rfl)
  try have m4 : Lm C.X 4 "_law_great" := lm_of hN hS rfl (.inr rfl) (.inl (hfn _))
  have n5 : Nm C.X 5 "_law_number" := nm_of hN hS rfl (by first | exact .inl rfl | exact .inr (.inl rfl)) rfl rfl
  try have m5 : Lm C.X 5 "_law_number" := lm_of hN hS rfl (.inl rfl) (.inr rfl)
  try have m5 : Lm C.X 5 "_law_number" := lm_of hN hS rfl (.inr rfl) (.inl (hfn _))
  have n6 : Nm C.X 6 "_law_found" := nm_of hN hS rfl (by first | exact .inl rfl | exact .inr (.inl rfl)) rfl rfl
  try have m6 : Lm C.X 6 "_law_found" := lm_of hN hS rfl (.inl rfl) (.inr rfl)
  try have m6 : Lm C.X 6 "_law_found" := lm_of hN hS rfl (.inr rfl) (.inl (hfn _))
  have n7 : Nm C.X 7 "_law_k" := nm_of hN hS rfl (by first | exact .inl rfl | exact .inr (.inl rfl)) rfl rfl
  try have m7 : Lm C.X 7 "_law_k" := lm_of hN hS rfl (.inl rfl) (.inr rfl)
  try have m7 : Lm C.X 7 "_law_k" := lm_of hN hS rfl (.inr rfl) (.inl (hfn _))
  have n8 : Nm C.X 8 "_law_mixed" := nm_of hN hS rfl (by first | exact .inl rfl | exact .inr (.inl rfl)) rfl rfl
  try have m8 : Lm C.X 8 "_law_mixed" := lm_of hN hS rfl (.inl rfl) (.inr rfl)
  try have m8 : Lm C.X 8 "_law_mixed" := lm_of hN hS rfl (.inr rfl) (.inl (hfn _))
  have z_len : Bl C.X "len" := ⟨gl_of hS rfl, b_len⟩
  have z_min : Bl C.X "min" := ⟨gl_of hS rfl, b_min⟩
  have z_range : Bl C.X "range" := ⟨gl_of hS rfl, b_range⟩
  unfold t__law_draws
  walk_at "comp"
theorem sd__law_names {C : Cn} {xc : Str → Addr} (hN : C.X.N = (["_law_digits", "_law_found", "_law_last", "_law_digit"] : List Str)) (hS : C.X.env.scope = defScope s_law_names) (nd : C.X.N.Nodup) (hc : C.X.calm = true) (hp : PassesOwn (model C.X.prog C.X.w) C.X.A C.X.env C.X.xe) (hr : Room 0 C.X.A) (tk : Takes C.X C.CW) (hfn : ∀ x, C.X.fn x = true) (hbk : C.X.env.blockKind = .function)
    : SndSs C xc (defBody s_law_names) t__law_names := by
  have n0 : Nm C.X 0 "_law_digits" := nm_of hN hS rfl (by first | exact .inl rfl | exact .inr (.inl rfl)) rfl rfl
  try have m0 : Lm C.X 0 "_law_digits" := lm_of hN hS rfl (.inl rfl) (.inr rfl)
  try have m0 : Lm C.X 0 "_law_digits" := lm_of hN hS rfl (.inr rfl) (.inl (hfn _))
  have n1 : Nm C.X 1 "_law_found" := nm_of hN hS rfl (by first | exact .inl rfl | exact .inr (.inl rfl)) rfl rfl
  try have m1 : Lm C.X 1 "_law_found" := lm_of hN hS rfl (.inl rfl) (.inr rfl)
  try have m1 : Lm C.X 1 "_law_found" := lm_of hN hS rfl (.inr rfl) (.inl (hfn _))
  have n2 : Nm C.X 2 "_law_last" := nm_of hN hS rfl (by first | exact .inl rfl | exact .inr (.inl rfl)) rfl rfl
  try have m2 : Lm C.X 2 "_law_last" := lm_of hN hS rfl (.inl rfl) (.inr rfl)
  try have m2 : Lm C.X 2 "_law_last" := lm_of hN hS rfl (.inr rfl) (.inl (hfn _))
  have n3 : Nm C.X 3 "_law_digit" := nm_of hN hS rfl (by first | exact .inl rfl | exact .inr (.inl rfl)) rfl rfl
  try have m3 : Lm C.X 3 "_law_digit" := lm_of hN hS rfl (.inl rfl) (.inr rfl)
  try have m3 : Lm C.X 3 "_law_digit" := lm_of hN hS rfl (.inr rfl) (.inl (hfn _))
  unfold t__law_names
  walk_at "comp"
theorem sd__law_shuffled {C : Cn} {xc : Str → Addr} (hN : C.X.N = (["_law_names_here", "_law_digits", "_law_found", "_law_name", "_law_digit"] : List Str)) (hS : C.X.env.scope = defScope s_law_shuffled) (nd : C.X.N.Nodup) (hc : C.X.calm = true) (hp : PassesOwn (model C.X.prog C.X.w) C.X.A C.X.env C.X.xe) (hr : Room 0 C.X.A) (tk : Takes C.X C.CW) (hfn : ∀ x, C.X.fn x = true) (hbk : C.X.env.blockKind = .function)
    (b_len : C.X.mg "len" = none)
    (b_zip : C.X.mg "zip" = none)
    : SndSs C xc (defBody s_law_shuffled) t__law_shuffled := by
  have n0 : Nm C.X 0 "_law_names_here" := nm_of hN hS rfl (by first | exact .inl rfl | exact .inr (.inl rfl)) rfl rfl
  try have m0 : Lm C.X 0 "_law_names_here" := lm_of hN hS rfl (.inl rfl) (.inr rfl)
  try have m0 : Lm C.X 0 "_law_names_here" := lm_of hN hS rfl (.inr rfl) (.inl (hfn _))
  have n1 : Nm C.X 1 "_law_digits" := nm_of hN hS rfl (by first | exact .inl rfl | exact .inr (.inl rfl)) rfl rfl
  try have m1 : Lm C.X 1 "_law_digits" := lm_of hN hS rfl (.inl rfl) (.inr rfl)
  try have m1 : Lm C.X 1 "_law_digits" := lm_of hN hS rfl (.inr rfl) (.inl (hfn _))
  have n2 : Nm C.X 2 "_law_found" := nm_of hN hS rfl (by first | exact .inl rfl | exact .inr (.inl rfl)) rfl rfl
  try have m2 : Lm C.X 2 "_law_found" := lm_of hN hS rfl (.inl rfl) (.inr rfl)
  try have m2 : Lm C.X 2 "_law_found" := lm_of hN hS rfl (.inr rfl) (.inl (hfn _))
  have n3 : Nm C.X 3 "_law_name" := nm_of hN hS rfl (by first | exact .inl rfl | exact .inr (.inl rfl)) rfl rfl
  try have m3 : Lm C.X 3 "_law_name" := lm_of hN hS rfl (.inl rfl) (.inr rfl)
  try have m3 : Lm C.X 3 "_law_name" := lm_of hN hS rfl (.inr rfl) (.inl (hfn _))
  have n4 : Nm C.X 4 "_law_digit" := nm_of hN hS rfl (by first | exact .inl rfl | exact .inr (.inl rfl)) rfl rfl
  try have m4 : Lm C.X 4 "_law_digit" := lm_of hN hS rfl (.inl rfl) (.inr rfl)
  try have m4 : Lm C.X 4 "_law_digit" := lm_of hN hS rfl (.inr rfl) (.inl (hfn _))
  have z_len : Bl C.X "len" := ⟨gl_of hS rfl, b_len⟩
  have z_zip : Bl C.X "zip" := ⟨gl_of hS rfl, b_zip⟩
  unfold t__law_shuffled
  walk_at "comp"
theorem sd__law_fallen {C : Cn} {xc : Str → Addr} (hN : C.X.N = (["_law_line_here", "_law_digits", "_law_left", "_law_found", "_law_digit"] : List Str)) (hS : C.X.env.scope = defScope s_law_fallen) (nd : C.X.N.Nodup) (hc : C.X.calm = true) (hp : PassesOwn (model C.X.prog C.X.w) C.X.A C.X.env C.X.xe) (hr : Room 0 C.X.A) (tk : Takes C.X C.CW) (hfn : ∀ x, C.X.fn x = true) (hbk : C.X.env.blockKind = .function)
    (b_len : C.X.mg "len" = none)
    (b_list : C.X.mg "list" = none)
    : SndSs C xc (defBody s_law_fallen) t__law_fallen := by
  have n0 : Nm C.X 0 "_law_line_here" := nm_of hN hS rfl (by first | exact .inl rfl | exact .inr (.inl rfl)) rfl rfl
  try have m0 : Lm C.X 0 "_law_line_here" := lm_of hN hS rfl (.inl rfl) (.inr rfl)
  try have m0 : Lm C.X 0 "_law_line_here" := lm_of hN hS rfl (.inr rfl) (.inl (hfn _))
  have n1 : Nm C.X 1 "_law_digits" := nm_of hN hS rfl (by first | exact .inl rfl | exact .inr (.inl rfl)) rfl rfl
  try have m1 : Lm C.X 1 "_law_digits" := lm_of hN hS rfl (.inl rfl) (.inr rfl)
  try have m1 : Lm C.X 1 "_law_digits" := lm_of hN hS rfl (.inr rfl) (.inl (hfn _))
  have n2 : Nm C.X 2 "_law_left" := nm_of hN hS rfl (by first | exact .inl rfl | exact .inr (.inl rfl)) rfl rfl
  try have m2 : Lm C.X 2 "_law_left" := lm_of hN hS rfl (.inl rfl) (.inr rfl)
  try have m2 : Lm C.X 2 "_law_left" := lm_of hN hS rfl (.inr rfl) (.inl (hfn _))
  have n3 : Nm C.X 3 "_law_found" := nm_of hN hS rfl (by first | exact .inl rfl | exact .inr (.inl rfl)) rfl rfl
  try have m3 : Lm C.X 3 "_law_found" := lm_of hN hS rfl (.inl rfl) (.inr rfl)
  try have m3 : Lm C.X 3 "_law_found" := lm_of hN hS rfl (.inr rfl) (.inl (hfn _))
  have n4 : Nm C.X 4 "_law_digit" := nm_of hN hS rfl (by first | exact .inl rfl | exact .inr (.inl rfl)) rfl rfl
  try have m4 : Lm C.X 4 "_law_digit" := lm_of hN hS rfl (.inl rfl) (.inr rfl)
  try have m4 : Lm C.X 4 "_law_digit" := lm_of hN hS rfl (.inr rfl) (.inl (hfn _))
  have z_len : Bl C.X "len" := ⟨gl_of hS rfl, b_len⟩
  have z_list : Bl C.X "list" := ⟨gl_of hS rfl, b_list⟩
  unfold t__law_fallen
  walk_at "comp"
end KX

set_option Elab.async false
set_option linter.all false
set_option maxRecDepth 100000
set_option maxHeartbeats 4000000
namespace KX
open PySem PySem.Spec PyProof.Rows L2 M
local macro_rules | `(tactic| walk_at "nm") => `(tactic| first
  | assumption
  | exact nm_tr (by assumption)
  | exact nm_blk (by first | assumption | exact Nm.hN (by assumption)) (by first | exact .inl rfl | exact .inr (.inl rfl) | exact vis_rel rfl) rfl rfl
  | exact nm_gen (by first | assumption | exact Nm.hN (by assumption)) (by first | exact .inl rfl | exact .inr (.inl rfl) | exact .inr (.inr rfl)) rfl rfl)
local macro_rules | `(tactic| walk_at "bl") => `(tactic| first
  | assumption
  | exact ⟨rfl, by assumption⟩
  | exact ⟨Bl.hg (by assumption), Bl.hm (by assumption)⟩)
local macro_rules | `(tactic| walk_at "ix") => `(tactic| first | assumption | exact Nm.hN (by assumption))
local macro_rules | `(tactic| walk_at "tk") => `(tactic| first | assumption | exact takes_false fun _ _ _ z => z)
local macro_rules | `(tactic| walk_at "rm") => `(tactic| first | assumption)
local macro_rules | `(tactic| walk_at "cl") => `(tactic| first
  | (with_reducible assumption)
  | exact clN_blk (by with_reducible assumption) rfl
  | exact clN_blk2 (by with_reducible assumption) rfl
  | exact gl_gen (by with_reducible assumption) (by assumption) (by decide) rfl rfl
  | exact clN_tr (by with_reducible assumption) (gl_of (by assumption) rfl))
local macro_rules | `(tactic| walk_at "bk") => `(tactic| first
  | exact blk_of (by assumption) (by assumption) (by decide +kernel)
  | exact blk_of (by assumption) (relS_of (by assumption)) (by decide +kernel))
local macro_rules | `(tactic| walk_at "lv") => `(tactic| first | exact fun _ => ⟨.inl rfl, rfl⟩ | rfl)
local macro_rules | `(tactic| walk_at "ints") => `(tactic| (intro _ _ _ _ _))
local macro_rules | `(tactic| walk_at "comp") => `(tactic| repeat' (first
  | (with_reducible exact sds_nil)
  | (with_reducible exact sd_no)
  | (with_reducible exact snd_no)
  | (with_reducible refine' sds_frz ?_)
  | (with_reducible refine' sds_cons ?_ ?_)
  | ((with_reducible refine' sds_open ?_ ?_); rotate_left 3; exact rfl)
  | ((with_reducible refine' snd_var ?_); walk_at "nm")
  | (with_reducible exact snd_int)
  | (with_reducible exact snd_bool)
  | (with_reducible exact snd_none)
  | (with_reducible exact snd_str)
  | ((with_reducible refine' snd_globI ?_); first | assumption | exact ⟨rfl, by assumption, rfl⟩)
  | ((with_reducible refine' snd_kd ?_); first | assumption | exact ⟨rfl, rfl, by assumption⟩)
  | (with_reducible refine' snd_add ?_ ?_)
  | (with_reducible refine' snd_sub ?_ ?_)
  | (with_reducible refine' snd_mul ?_ ?_)
  | (with_reducible refine' snd_fdiv ?_ ?_)
  | (with_reducible refine' snd_mod ?_ ?_)
  | (with_reducible refine' snd_pow ?_ ?_)
  | (with_reducible refine' snd_shl ?_ ?_)
  | (with_reducible refine' snd_shr ?_ ?_)
  | (with_reducible refine' snd_band ?_ ?_)
  | (with_reducible refine' snd_neg ?_)
  | (with_reducible refine' snd_lt ?_ ?_)
  | (with_reducible refine' snd_le ?_ ?_)
  | (with_reducible refine' snd_gt ?_ ?_)
  | (with_reducible refine' snd_ge ?_ ?_)
  | ((with_reducible refine' snd_eq ?_ ?_ ?_); rotate_left 1; assumption)
  | ((with_reducible refine' snd_ne ?_ ?_ ?_); rotate_left 1; assumption)
  | ((with_reducible refine' snd_in ?_ ?_ ?_ ?_); rotate_left 1; assumption; rfl)
  | ((with_reducible refine' snd_ni ?_ ?_ ?_ ?_); rotate_left 1; assumption; rfl)
  | (with_reducible refine' snd_isN ?_)
  | (with_reducible refine' snd_isNn ?_)
  | (with_reducible refine' sdT_bor ?_)
  | (with_reducible refine' snd_bor ?_)
  | (with_reducible refine' sdT_lt ?_ ?_)
  | (with_reducible refine' sdT_le ?_ ?_)
  | (with_reducible refine' sdT_gt ?_ ?_)
  | (with_reducible refine' sdT_ge ?_ ?_)
  | ((with_reducible refine' sdT_eq ?_ ?_ ?_); rotate_left 1; assumption)
  | ((with_reducible refine' sdT_ne ?_ ?_ ?_); rotate_left 1; assumption)
  | ((with_reducible refine' sdT_in ?_ ?_ ?_ ?_); rotate_left 1; assumption; rfl)
  | ((with_reducible refine' sdT_ni ?_ ?_ ?_ ?_); rotate_left 1; assumption; rfl)
  | (with_reducible refine' sdT_isN ?_)
  | (with_reducible refine' sdT_isNn ?_)
  | (with_reducible refine' snd_chLe rfl ?_ ?_ ?_)
  | (with_reducible refine' sdT_chLe rfl ?_ ?_ ?_)
  | (with_reducible refine' sdT_chLeLt rfl ?_ ?_ ?_)
  | (with_reducible refine' sdT_not ?_)
  | (with_reducible refine' sdW_one ?_)
  | (with_reducible refine' sdW_and ?_ ?_)
  | (with_reducible refine' sdW_or ?_ ?_)
  | (with_reducible refine' sdT_bop ?_)
  | (with_reducible refine' sdT_call ?_)
  | (with_reducible refine' sdT_name ?_)
  | (with_reducible refine' snd_one ?_)
  | (with_reducible refine' snd_and ?_ ?_)
  | (with_reducible refine' snd_or ?_ ?_)
  | (with_reducible refine' snd_not ?_)
  | (with_reducible refine' snd_if ?_ ?_ ?_)
  | (with_reducible exact sdA_nil)
  | ((with_reducible refine' sdA_cons ?_ ?_ ?_); rotate_left 2; exact rfl)
  | (with_reducible refine' snd_lst ?_)
  | (with_reducible refine' snd_tup ?_)
  | ((with_reducible refine' snd_len ?_ ?_ ?_ ?_); (walk_at "bl"); rotate_left 1; exact rfl; exact rfl)
  | ((with_reducible refine' snd_abs ?_ ?_ ?_ ?_); (walk_at "bl"); rotate_left 1; exact rfl; exact rfl)
  | ((with_reducible refine' snd_list ?_ ?_ ?_ ?_); (walk_at "bl"); rotate_left 1; exact rfl; exact rfl)
  | ((with_reducible refine' snd_sorted ?_ ?_ ?_ ?_ ?_); rotate_left 1; assumption; (walk_at "bl"); rotate_left 1; exact rfl; exact rfl)
  | ((with_reducible refine' snd_max1 ?_ ?_ ?_ ?_); assumption; (walk_at "bl"); rotate_left 1; exact rfl)
  | ((with_reducible refine' snd_min1 ?_ ?_ ?_ ?_); assumption; (walk_at "bl"); rotate_left 1; exact rfl)
  | ((with_reducible refine' snd_max2 ?_ ?_ ?_ ?_ ?_); assumption; (walk_at "bl"); rotate_left 1; exact rfl; exact rfl)
  | ((with_reducible refine' snd_min2 ?_ ?_ ?_ ?_ ?_); assumption; (walk_at "bl"); rotate_left 1; exact rfl; exact rfl)
  | ((with_reducible refine' snd_sum ?_ ?_ ?_ ?_); assumption; (walk_at "bl"); rotate_left 1; exact rfl)
  | ((with_reducible refine' snd_intB ?_ ?_ ?_); (walk_at "bl"); rotate_left 1; exact rfl)
  | ((with_reducible refine' snd_isi kit_int ?_ ?_ ?_ ?_ ?_ ?_); (walk_at "bl"); (walk_at "bl"); rotate_left 1; exact rfl; exact rfl; exact rfl)
  | ((with_reducible refine' snd_isi kit_bool ?_ ?_ ?_ ?_ ?_ ?_); (walk_at "bl"); (walk_at "bl"); rotate_left 1; exact rfl; exact rfl; exact rfl)
  | ((with_reducible refine' snd_isi kit_list ?_ ?_ ?_ ?_ ?_ ?_); (walk_at "bl"); (walk_at "bl"); rotate_left 1; exact rfl; exact rfl; exact rfl)
  | ((with_reducible refine' snd_isi kit_tuple ?_ ?_ ?_ ?_ ?_ ?_); (walk_at "bl"); (walk_at "bl"); rotate_left 1; exact rfl; exact rfl; exact rfl)
  | ((with_reducible refine' snd_isi kit_str ?_ ?_ ?_ ?_ ?_ ?_); (walk_at "bl"); (walk_at "bl"); rotate_left 1; exact rfl; exact rfl; exact rfl)
  | ((with_reducible refine' snd_isVE ?_ ?_ ?_ ?_ ?_ ?_ ?_); (walk_at "bl"); (walk_at "bl"); assumption; rotate_left 1; exact rfl; exact rfl; exact rfl)
  | ((with_reducible refine' snd_isX ?_ ?_ ?_ ?_ ?_ ?_ ?_ ?_ ?_); (walk_at "bl"); assumption; decide; (first | exact gl_of (by assumption) rfl | exact rfl); rfl; rotate_left 1; exact rfl; exact rfl; exact rfl)
  | ((with_reducible refine' snd_tupleL ?_ ?_ ?_); (walk_at "bl"); rotate_left 1; exact rfl)
  | ((with_reducible refine' snd_lenSet ?_ ?_ ?_ ?_ ?_); (walk_at "bl"); (walk_at "bl"); assumption; rotate_left 1; exact rfl)
  | ((with_reducible refine' snd_lenO ?_ ?_ ?_); (walk_at "bl"); (walk_at "nm"); exact rfl)
  | ((with_reducible refine' snd_ixO ?_ ?_ ?_); (walk_at "nm"); (intro _ _; rfl))
  | ((with_reducible refine' snd_ix ?_ ?_ ?_); (intro _ _; rfl))
  | ((with_reducible refine' snd_ixD ?_ ?_ ?_ ?_); rotate_left 1; assumption; (intro _ _; rfl))
  | ((with_reducible refine' snd_index ?_ ?_ ?_ ?_ ?_ ?_); rotate_left 2; exact rfl; exact rfl; exact rfl; exact rfl)
  | (with_reducible exact sdO_none)
  | (with_reducible refine' sdO_some ?_)
  | (with_reducible refine' snd_slice ?_ ?_ ?_)
  | (with_reducible refine' snd_rev ?_)
  | ((with_reducible refine' snd_call ?_ ?_ ?_ ?_ ?_); (walk_at "cl"); (walk_at "tk"); rotate_left 1; exact rfl; exact rfl)
  | ((with_reducible refine' snd_lc10 ?_ ?_ ?_ ?_ ?_ ?_ ?_ ?_); assumption; assumption; (walk_at "ix"); (walk_at "bk"); rotate_left 2; (walk_at "lv"); (intro _; rfl); rotate_left 1; (walk_at "ints"))
  | ((with_reducible refine' snd_lc11 ?_ ?_ ?_ ?_ ?_ ?_ ?_ ?_ ?_); assumption; assumption; (walk_at "ix"); (walk_at "bk"); rotate_left 3; (walk_at "lv"); (intro _; rfl); rotate_left 1; (walk_at "ints"); rotate_left 1; (walk_at "ints"))
  | ((with_reducible refine' snd_lc20 ?_ ?_ ?_ ?_ ?_ ?_ ?_ ?_ ?_ ?_); assumption; assumption; (walk_at "ix"); (walk_at "ix"); (walk_at "bk"); rotate_left 2; (walk_at "lv"); (walk_at "lv"); (intro _; rfl); rotate_left 1; (walk_at "ints"))
  | ((with_reducible refine' snd_lc21 ?_ ?_ ?_ ?_ ?_ ?_ ?_ ?_ ?_ ?_ ?_); assumption; assumption; (walk_at "ix"); (walk_at "ix"); (walk_at "bk"); rotate_left 3; (walk_at "lv"); (walk_at "lv"); (intro _; rfl); rotate_left 1; (walk_at "ints"); rotate_left 1; (walk_at "ints"))
  | ((with_reducible refine' snd_dc2 ?_ ?_ ?_ ?_ ?_ ?_ ?_ ?_ ?_ ?_ ?_); assumption; assumption; (walk_at "ix"); (walk_at "ix"); (walk_at "bk"); rotate_left 3; (walk_at "lv"); (walk_at "lv"); (intro _; rfl); rotate_left 1; (walk_at "ints"); rotate_left 1; (walk_at "ints"))
  | ((with_reducible refine' sdI_rg1 ?_ ?_ ?_ ?_); (walk_at "bl"); rotate_left 1; exact rfl; exact rfl)
  | ((with_reducible refine' sdI_rg2 ?_ ?_ ?_ ?_ ?_ ?_ ?_); (walk_at "bl"); rotate_left 2; exact rfl; exact rfl; exact rfl; exact rfl)
  | ((with_reducible refine' sdI_en ?_ ?_ ?_ ?_); (walk_at "bl"); rotate_left 1; exact rfl; exact rfl)
  | ((with_reducible refine' sdI_zip ?_ ?_ ?_ ?_ ?_ ?_); (walk_at "bl"); rotate_left 2; exact rfl; exact rfl; exact rfl)
  | ((with_reducible refine' sdI_rev ?_ ?_ ?_ ?_); (walk_at "bl"); rotate_left 1; exact rfl; exact rfl)
  | (with_reducible refine' sdI_tup ?_)
  | (with_reducible refine' sdI_list ?_)
  | (with_reducible refine' sdF_bor ?_)
  | (with_reducible refine' sdF_lst ?_)
  | ((with_reducible refine' sdF_list ?_ ?_ ?_ ?_); (walk_at "bl"); rotate_left 1; exact rfl; exact rfl)
  | (with_reducible refine' sdF_slice ?_ ?_ ?_)
  | (with_reducible refine' sdF_rev ?_)
  | ((with_reducible refine' snd_gen10 csm_sum ?_ ?_ ?_ ?_ ?_ ?_ ?_ ?_ ?_ ?_ ?_ ?_ ?_ ?_ ?_ ?_ ?_ ?_); walk_at "gen1")
  | ((with_reducible refine' snd_gen10 csm_min ?_ ?_ ?_ ?_ ?_ ?_ ?_ ?_ ?_ ?_ ?_ ?_ ?_ ?_ ?_ ?_ ?_ ?_); walk_at "gen1")
  | ((with_reducible refine' snd_gen10 csm_all ?_ ?_ ?_ ?_ ?_ ?_ ?_ ?_ ?_ ?_ ?_ ?_ ?_ ?_ ?_ ?_ ?_ ?_); walk_at "gen1")
  | ((with_reducible refine' snd_gen10 csm_any ?_ ?_ ?_ ?_ ?_ ?_ ?_ ?_ ?_ ?_ ?_ ?_ ?_ ?_ ?_ ?_ ?_ ?_); walk_at "gen1")
  | ((with_reducible refine' snd_gen20 csm_sum ?_ ?_ ?_ ?_ ?_ ?_ ?_ ?_ ?_ ?_ ?_ ?_ ?_ ?_ ?_ ?_ ?_ ?_ ?_ ?_); walk_at "gen2")
  | ((with_reducible refine' snd_gen20 csm_all ?_ ?_ ?_ ?_ ?_ ?_ ?_ ?_ ?_ ?_ ?_ ?_ ?_ ?_ ?_ ?_ ?_ ?_ ?_ ?_); walk_at "gen2")
  | ((with_reducible refine' snd_gen20 csm_any ?_ ?_ ?_ ?_ ?_ ?_ ?_ ?_ ?_ ?_ ?_ ?_ ?_ ?_ ?_ ?_ ?_ ?_ ?_ ?_); walk_at "gen2")
  | ((with_reducible refine' snd_gen21 csm_sum ?_ ?_ ?_ ?_ ?_ ?_ ?_ ?_ ?_ ?_ ?_ ?_ ?_ ?_ ?_ ?_ ?_ ?_ ?_ ?_ ?_); walk_at "gen3")
  | (with_reducible refine' sd_ret ?_)
  | (with_reducible exact sd_retN)
  | (with_reducible refine' sd_if ?_ ?_ ?_)
  | (with_reducible exact sd_bk)
  | (with_reducible exact sd_ct)
  | (with_reducible exact sd_pass)
  | ((with_reducible refine' sd_asgLc10 ?_ ?_ ?_ ?_ ?_ ?_ ?_ ?_ ?_ ?_ ?_); assumption; assumption; (walk_at "ix"); (walk_at "ix"); (exact hyl_of (by assumption) (by decide +kernel)); (exact swp_t (by assumption) (by assumption) rfl rfl rfl); (walk_at "bk"); rotate_left 2; (walk_at "lv"); (intro _; rfl); rotate_left 1; (walk_at "ints"))
  | ((with_reducible refine' sd_asgLc11 ?_ ?_ ?_ ?_ ?_ ?_ ?_ ?_ ?_ ?_ ?_ ?_); assumption; assumption; (walk_at "ix"); (walk_at "ix"); (exact hyl_of (by assumption) (by decide +kernel)); (exact swp_t (by assumption) (by assumption) rfl rfl rfl); (walk_at "bk"); rotate_left 3; (walk_at "lv"); (intro _; rfl); rotate_left 1; (walk_at "ints"); rotate_left 1; (walk_at "ints"))
  | ((with_reducible refine' sd_asgLc20 ?_ ?_ ?_ ?_ ?_ ?_ ?_ ?_ ?_ ?_ ?_ ?_ ?_); assumption; assumption; (walk_at "ix"); (walk_at "ix"); (exact hyl_of (by assumption) (by decide +kernel)); (walk_at "ix"); (exact swp_t (by assumption) (by assumption) rfl rfl rfl); (walk_at "bk"); rotate_left 2; (walk_at "lv"); (walk_at "lv"); (intro _; rfl); rotate_left 1; (walk_at "ints"))
  | ((with_reducible refine' sd_asgLc21 ?_ ?_ ?_ ?_ ?_ ?_ ?_ ?_ ?_ ?_ ?_ ?_ ?_ ?_); assumption; assumption; (walk_at "ix"); (walk_at "ix"); (exact hyl_of (by assumption) (by decide +kernel)); (walk_at "ix"); (exact swp_t (by assumption) (by assumption) rfl rfl rfl); (walk_at "bk"); rotate_left 3; (walk_at "lv"); (walk_at "lv"); (intro _; rfl); rotate_left 1; (walk_at "ints"); rotate_left 1; (walk_at "ints"))
  | ((with_reducible refine' sd_asg ?_ ?_ ?_ ?_); assumption; assumption; rotate_left 1; (first | exact rfl | ((refine' swp_f ?_ ?_); rotate_left 1; assumption; exact rfl) | ((refine' swp_f ?_ ?_); rotate_left 1; assumption; decide +kernel)))
  | ((with_reducible refine' sd_own ?_ ?_ ?_ ?_); assumption; assumption; rotate_left 1; exact rfl)
  | ((with_reducible refine' sd_appPop ?_ ?_ ?_ ?_ ?_ ?_ ?_ ?_ ?_ ?_ ?_ ?_); (walk_at "nm"); (walk_at "nm"); rotate_left 1; exact rfl; exact rfl; exact rfl; exact rfl; exact rfl; exact rfl; exact rfl; exact rfl; exact rfl)
  | ((with_reducible refine' sd_app ?_ ?_ ?_ ?_ ?_ ?_ ?_); (walk_at "nm"); rotate_left 1; exact rfl; exact rfl; exact rfl; exact rfl; exact rfl)
  | ((with_reducible refine' sd_ins ?_ ?_ ?_ ?_ ?_ ?_ ?_ ?_ ?_ ?_); (walk_at "nm"); rotate_left 2; exact rfl; exact rfl; exact rfl; exact rfl; exact rfl; exact rfl; exact rfl)
  | ((with_reducible refine' sd_setO ?_ ?_ ?_ ?_ ?_ ?_ ?_); (walk_at "nm"); rotate_left 2; exact rfl; exact rfl; exact rfl; (intro _; rfl))
  | ((with_reducible refine' sd_for1 ?_ ?_ ?_ ?_ ?_ ?_ ?_); assumption; assumption; assumption; assumption; rotate_left 2; (intro _; rfl))
  | ((with_reducible refine' sd_for2 ?_ ?_ ?_ ?_ ?_ ?_ ?_ ?_); assumption; assumption; assumption; assumption; assumption; rotate_left 2; (intro _; rfl))
  | ((with_reducible refine' sd_while ?_ ?_ ?_); assumption)
  | ((with_reducible refine' sd_aug ip_add ?_ ?_ ?_); assumption; assumption)
  | ((with_reducible refine' sd_aug ip_sub ?_ ?_ ?_); assumption; assumption)
  | ((with_reducible refine' sd_asg2 ?_ ?_ ?_ ?_ ?_ ?_); assumption; assumption; assumption; rotate_left 1; exact rfl; exact rfl)
  | ((with_reducible refine' sd_par2 ?_ ?_ ?_ ?_ ?_ ?_ ?_ ?_ ?_ ?_); assumption; assumption; assumption; assumption; decide; (exact hyl_of (by assumption) (by decide +kernel)); (exact hyl_of (by assumption) (by decide +kernel)); rotate_left 1; exact rfl; exact rfl)
  | ((with_reducible refine' sd_un2 ?_ ?_ ?_ ?_ ?_ ?_ ?_ ?_); assumption; assumption; assumption; assumption; rotate_left 1; exact rfl; exact rfl; exact rfl)
  | ((with_reducible refine' sd_raise ?_ ?_ ?_ ?_ ?_ ?_ ?_); rotate_left 1; assumption; (walk_at "tk"); assumption; decide; decide; (exact gl_of (by assumption) rfl); decide)
  | ((with_reducible refine' sd_try ?_ ?_ ?_ ?_ ?_ ?_ ?_ ?_ ?_ ?_ ?_ ?_ ?_); assumption; assumption; (walk_at "tk"); (walk_at "nm"); (exact hyl_of (by assumption) (by decide +kernel)); assumption; (exact hyl_of (by assumption) (by decide +kernel)); assumption; (exact gl_of (by assumption) rfl); rotate_left 1; decide; (exact hyl_of (by assumption) (by decide +kernel)); exact rfl; (intro _ _ _ _ _ _ _))
  | ((with_reducible refine' sd_expr ?_ ?_); rotate_left 1; exact rfl)
  | fail))
local macro_rules | `(tactic| walk_at "gen0") => `(tactic| (skip))
local macro_rules | `(tactic| walk_at "gens") => `(tactic| exact ⟨rfl, rfl, by decide +kernel, rfl⟩)
local macro_rules | `(tactic| walk_at "boot") => `(tactic| first | exact boot_sum1 | exact boot_all1 | exact boot_any1 | exact boot_min1)
local macro_rules | `(tactic| walk_at "gen1") => `(tactic| (rotate_left 3; assumption; (walk_at "bl"); (walk_at "boot"); assumption; assumption; assumption; assumption; assumption; (walk_at "ix"); (walk_at "bk"); (walk_at "gens"); rotate_left 2; (walk_at "lv"); (intro _; rfl); exact rfl; decide; decide; rotate_left 1; (intro _ _ _ _ _ _ _ _ _)))
local macro_rules | `(tactic| walk_at "gen2") => `(tactic| (rotate_left 3; assumption; (walk_at "bl"); (walk_at "boot"); assumption; assumption; assumption; assumption; assumption; (walk_at "ix"); (walk_at "ix"); (walk_at "bk"); (walk_at "gens"); rotate_left 2; (walk_at "lv"); (walk_at "lv"); (intro _; rfl); exact rfl; decide; decide; rotate_left 1; (intro _ _ _ _ _ _ _ _ _)))
local macro_rules | `(tactic| walk_at "gen3") => `(tactic| (rotate_left 3; assumption; (walk_at "bl"); (walk_at "boot"); assumption; assumption; assumption; assumption; assumption; (walk_at "ix"); (walk_at "ix"); (walk_at "bk"); (walk_at "gens"); rotate_left 3; (walk_at "lv"); (walk_at "lv"); (intro _; rfl); exact rfl; decide; decide; rotate_left 1; (intro _ _ _ _ _ _ _ _ _); rotate_left 1; (intro _ _ _ _ _ _ _ _ _)))

theorem sd__law_line {C : Cn} {xc : Str → Addr} (hN : C.X.N = (["_law_script", "_law_j", "_law_many", "_law_draws_here"] : List Str)) (hS : C.X.env.scope = defScope s_law_line) (nd : C.X.N.Nodup) (hc : C.X.calm = true) (hp : PassesOwn (model C.X.prog C.X.w) C.X.A C.X.env C.X.xe) (hr : Room 1 C.X.A) (tk : Takes C.X C.CW) (hfn : ∀ x, C.X.fn x = true) (hbk : C.X.env.blockKind = .function)
    (c__law_draws : ClN C "_law_draws" (aspT xc f__law_draws))
    (c__law_shuffled : ClN C "_law_shuffled" (aspT xc f__law_shuffled))
    (c__law_names : ClN C "_law_names" (aspT xc f__law_names))
    : SndSs C xc (defBody s_law_line) t__law_line := by
  have n0 : Nm C.X 0 "_law_script" := nm_of hN hS rfl (by first | exact .inl rfl | exact .inr (.inl rfl)) rfl rfl
  try have m0 : Lm C.X 0 "_law_script" := lm_of hN hS rfl (.inl rfl) (.inr rfl)
  try have m0 : Lm C.X 0 "_law_script" := lm_of hN hS rfl (.inr rfl) (.inl (hfn _))
  have n1 : Nm C.X 1 "_law_j" := nm_of hN hS rfl (by first | exact .inl rfl | exact .inr (.inl rfl)) rfl rfl
  try have m1 : Lm C.X 1 "_law_j" := lm_of hN hS rfl (.inl rfl) (.inr rfl)
  try have m1 : Lm C.X 1 "_law_j" := lm_of hN hS rfl (.inr rfl) (.inl (hfn _))
  have n2 : Nm C.X 2 "_law_many" := nm_of hN hS rfl (by first | exact .inl rfl | exact .inr (.inl rfl)) rfl rfl
  try have m2 : Lm C.X 2 "_law_many" := lm_of hN hS rfl (.inl rfl) (.inr rfl)
  try have m2 : Lm C.X 2 "_law_many" := lm_of hN hS rfl (.inr rfl) (.inl (hfn _))
  have n3 : Nm C.X 3 "_law_draws_here" := nm_of hN hS rfl (by first | exact .inl rfl | exact .inr (.inl rfl)) rfl rfl
  try have m3 : Lm C.X 3 "_law_draws_here" := lm_of hN hS rfl (.inl rfl) (.inr rfl)
  try have m3 : Lm C.X 3 "_law_draws_here" := lm_of hN hS rfl (.inr rfl) (.inl (hfn _))
  have cc__law_draws : Cl C "_law_draws" (aspT xc f__law_draws) := clN_top c__law_draws (gl_of hS rfl)
  have cc__law_shuffled : Cl C "_law_shuffled" (aspT xc f__law_shuffled) := clN_top c__law_shuffled (gl_of hS rfl)
  have cc__law_names : Cl C "_law_names" (aspT xc f__law_names) := clN_top c__law_names (gl_of hS rfl)
  unfold t__law_line
  walk_at "comp"
theorem sd__law_folk {C : Cn} {xc : Str → Addr} (hN : C.X.N = (["_law_script", "_law_j", "_law_line_here", "_law_hands", "_law_free", "_law_found", "_law_hand", "_law_draws_here"] : List Str)) (hS : C.X.env.scope = defScope s_law_folk) (nd : C.X.N.Nodup) (hc : C.X.calm = true) (hp : PassesOwn (model C.X.prog C.X.w) C.X.A C.X.env C.X.xe) (hr : Room 1 C.X.A) (tk : Takes C.X C.CW) (hfn : ∀ x, C.X.fn x = true) (hbk : C.X.env.blockKind = .function)
    (b_len : C.X.mg "len" = none)
    (b_range : C.X.mg "range" = none)
    (c__law_draws : ClN C "_law_draws" (aspT xc f__law_draws))
    (c__law_shuffled : ClN C "_law_shuffled" (aspT xc f__law_shuffled))
    (c__law_fallen : ClN C "_law_fallen" (aspT xc f__law_fallen))
    : SndSs C xc (defBody s_law_folk) t__law_folk := by
  have n0 : Nm C.X 0 "_law_script" := nm_of hN hS rfl (by first | exact .inl rfl | exact .inr (.inl rfl)) rfl rfl
  try have m0 : Lm C.X 0 "_law_script" := lm_of hN hS rfl (.inl rfl) (.inr rfl)
  try have m0 : Lm C.X 0 "_law_script" := lm_of hN hS rfl (.inr rfl) (.inl (hfn _))
  have n1 : Nm C.X 1 "_law_j" := nm_of hN hS rfl (by first | exact .inl rfl | exact .inr (.inl rfl)) rfl rfl
  try have m1 : Lm C.X 1 "_law_j" := lm_of hN hS rfl (.inl rfl) (.inr rfl)
  try have m1 : Lm C.X 1 "_law_j" := lm_of hN hS rfl (.inr rfl) (.inl (hfn _))
  have n2 : Nm C.X 2 "_law_line_here" := nm_of hN hS rfl (by first | exact .inl rfl | exact .inr (.inl rfl)) rfl rfl
  try have m2 : Lm C.X 2 "_law_line_here" := lm_of hN hS rfl (.inl rfl) (.inr rfl)
  try have m2 : Lm C.X 2 "_law_line_here" := lm_of hN hS rfl (.inr rfl) (.inl (hfn _))
  have n3 : Nm C.X 3 "_law_hands" := nm_of hN hS rfl (by first | exact .inl rfl | exact .inr (.inl rfl)) rfl rfl
  try have m3 : Lm C.X 3 "_law_hands" := lm_of hN hS rfl (.inl rfl) (.inr rfl)
  try have m3 : Lm C.X 3 "_law_hands" := lm_of hN hS rfl (.inr rfl) (.inl (hfn _))
  have n4 : Nm C.X 4 "_law_free" := nm_of hN hS rfl (by first | exact .inl rfl | exact .inr (.inl rfl)) rfl rfl
  try have m4 : Lm C.X 4 "_law_free" := lm_of hN hS rfl (.inl rfl) (.inr rfl)
  try have m4 : Lm C.X 4 "_law_free" := lm_of hN hS rfl (.inr rfl) (.inl (hfn _))
  have n5 : Nm C.X 5 "_law_found" := nm_of hN hS rfl (by first | exact .inl rfl | exact .inr (.inl rfl)) rfl rfl
  try have m5 : Lm C.X 5 "_law_found" := lm_of hN hS rfl (.inl rfl) (.inr rfl)
  try have m5 : Lm C.X 5 "_law_found" := lm_of hN hS rfl (.inr rfl) (.inl (hfn _))
  have n6 : Nm C.X 6 "_law_hand" := nm_of hN hS rfl (by first | exact .inl rfl | exact .inr (.inl rfl)) rfl rfl
  try have m6 : Lm C.X 6 "_law_hand" := lm_of hN hS rfl (.inl rfl) (.inr rfl)
  try have m6 : Lm C.X 6 "_law_hand" := lm_of hN hS rfl (.inr rfl) (.inl (hfn _))
  have n7 : Nm C.X 7 "_law_draws_here" := nm_of hN hS rfl (by first | exact .inl rfl | exact .inr (.inl rfl)) rfl rfl
  try have m7 : Lm C.X 7 "_law_draws_here" := lm_of hN hS rfl (.inl rfl) (.inr rfl)
  try have m7 : Lm C.X 7 "_law_draws_here" := lm_of hN hS rfl (.inr rfl) (.inl (hfn _))
  have z_len : Bl C.X "len" := ⟨gl_of hS rfl, b_len⟩
  have z_range : Bl C.X "range" := ⟨gl_of hS rfl, b_range⟩
  have cc__law_draws : Cl C "_law_draws" (aspT xc f__law_draws) := clN_top c__law_draws (gl_of hS rfl)
  have cc__law_shuffled : Cl C "_law_shuffled" (aspT xc f__law_shuffled) := clN_top c__law_shuffled (gl_of hS rfl)
  have cc__law_fallen : Cl C "_law_fallen" (aspT xc f__law_fallen) := clN_top c__law_fallen (gl_of hS rfl)
  unfold t__law_folk
  walk_at "comp"
theorem sd__law_weights {C : Cn} {xc : Str → Addr} (hN : C.X.N = (["_law_script", "_law_j", "_law_hands", "_law_digits", "_law_digit"] : List Str)) (hS : C.X.env.scope = defScope s_law_weights) (nd : C.X.N.Nodup) (hc : C.X.calm = true) (hp : PassesOwn (model C.X.prog C.X.w) C.X.A C.X.env C.X.xe) (hr : Room 1 C.X.A) (tk : Takes C.X C.CW) (hfn : ∀ x, C.X.fn x = true) (hbk : C.X.env.blockKind = .function)
    (c__law_draws : ClN C "_law_draws" (aspT xc f__law_draws))
    : SndSs C xc (defBody s_law_weights) t__law_weights := by
  have n0 : Nm C.X 0 "_law_script" := nm_of hN hS rfl (by first | exact .inl rfl | exact .inr (.inl rfl)) rfl rfl
  try have m0 : Lm C.X 0 "_law_script" := lm_of hN hS rfl (.inl rfl) (.inr rfl)
  try have m0 : Lm C.X 0 "_law_script" := lm_of hN hS rfl (.inr rfl) (.inl (hfn _))
  have n1 : Nm C.X 1 "_law_j" := nm_of hN hS rfl (by first | exact .inl rfl | exact .inr (.inl rfl)) rfl rfl
  try have m1 : Lm C.X 1 "_law_j" := lm_of hN hS rfl (.inl rfl) (.inr rfl)
  try have m1 : Lm C.X 1 "_law_j" := lm_of hN hS rfl (.inr rfl) (.inl (hfn _))
  have n2 : Nm C.X 2 "_law_hands" := nm_of hN hS rfl (by first | exact .inl rfl | exact .inr (.inl rfl)) rfl rfl
  try have m2 : Lm C.X 2 "_law_hands" := lm_of hN hS rfl (.inl rfl) (.inr rfl)
  try have m2 : Lm C.X 2 "_law_hands" := lm_of hN hS rfl (.inr rfl) (.inl (hfn _))
  have n3 : Nm C.X 3 "_law_digits" := nm_of hN hS rfl (by first | exact .inl rfl | exact .inr (.inl rfl)) rfl rfl
  try have m3 : Lm C.X 3 "_law_digits" := lm_of hN hS rfl (.inl rfl) (.inr rfl)
  try have m3 : Lm C.X 3 "_law_digits" := lm_of hN hS rfl (.inr rfl) (.inl (hfn _))
  have i4 : Ix C 4 "_law_digit" := ix_of hN rfl
  have cc__law_draws : Cl C "_law_draws" (aspT xc f__law_draws) := clN_top c__law_draws (gl_of hS rfl)
  unfold t__law_weights
  walk_at "comp"
theorem sd__law_lead {C : Cn} {xc : Str → Addr} (hN : C.X.N = (["_law_folk_here", "_law_weights_here", "_law_one", "_law_other", "_law_found", "_law_ranking", "_law_weight"] : List Str)) (hS : C.X.env.scope = defScope s_law_lead) (nd : C.X.N.Nodup) (hc : C.X.calm = true) (hp : PassesOwn (model C.X.prog C.X.w) C.X.A C.X.env C.X.xe) (hr : Room 0 C.X.A) (tk : Takes C.X C.CW) (hfn : ∀ x, C.X.fn x = true) (hbk : C.X.env.blockKind = .function)
    (b_int : C.X.mg "int" = none)
    (b_zip : C.X.mg "zip" = none)
    : SndSs C xc (defBody s_law_lead) t__law_lead := by
  have n0 : Nm C.X 0 "_law_folk_here" := nm_of hN hS rfl (by first | exact .inl rfl | exact .inr (.inl rfl)) rfl rfl
  try have m0 : Lm C.X 0 "_law_folk_here" := lm_of hN hS rfl (.inl rfl) (.inr rfl)
  try have m0 : Lm C.X 0 "_law_folk_here" := lm_of hN hS rfl (.inr rfl) (.inl (hfn _))
  have n1 : Nm C.X 1 "_law_weights_here" := nm_of hN hS rfl (by first | exact .inl rfl | exact .inr (.inl rfl)) rfl rfl
  try have m1 : Lm C.X 1 "_law_weights_here" := lm_of hN hS rfl (.inl rfl) (.inr rfl)
  try have m1 : Lm C.X 1 "_law_weights_here" := lm_of hN hS rfl (.inr rfl) (.inl (hfn _))
  have n2 : Nm C.X 2 "_law_one" := nm_of hN hS rfl (by first | exact .inl rfl | exact .inr (.inl rfl)) rfl rfl
  try have m2 : Lm C.X 2 "_law_one" := lm_of hN hS rfl (.inl rfl) (.inr rfl)
  try have m2 : Lm C.X 2 "_law_one" := lm_of hN hS rfl (.inr rfl) (.inl (hfn _))
  have n3 : Nm C.X 3 "_law_other" := nm_of hN hS rfl (by first | exact .inl rfl | exact .inr (.inl rfl)) rfl rfl
  try have m3 : Lm C.X 3 "_law_other" := lm_of hN hS rfl (.inl rfl) (.inr rfl)
  try have m3 : Lm C.X 3 "_law_other" := lm_of hN hS rfl (.inr rfl) (.inl (hfn _))
  have n4 : Nm C.X 4 "_law_found" := nm_of hN hS rfl (by first | exact .inl rfl | exact .inr (.inl rfl)) rfl rfl
  try have m4 : Lm C.X 4 "_law_found" := lm_of hN hS rfl (.inl rfl) (.inr rfl)
  try have m4 : Lm C.X 4 "_law_found" := lm_of hN hS rfl (.inr rfl) (.inl (hfn _))
  have n5 : Nm C.X 5 "_law_ranking" := nm_of hN hS rfl (by first | exact .inl rfl | exact .inr (.inl rfl)) rfl rfl
  try have m5 : Lm C.X 5 "_law_ranking" := lm_of hN hS rfl (.inl rfl) (.inr rfl)
  try have m5 : Lm C.X 5 "_law_ranking" := lm_of hN hS rfl (.inr rfl) (.inl (hfn _))
  have n6 : Nm C.X 6 "_law_weight" := nm_of hN hS rfl (by first | exact .inl rfl | exact .inr (.inl rfl)) rfl rfl
  try have m6 : Lm C.X 6 "_law_weight" := lm_of hN hS rfl (.inl rfl) (.inr rfl)
  try have m6 : Lm C.X 6 "_law_weight" := lm_of hN hS rfl (.inr rfl) (.inl (hfn _))
  have z_int : Bl C.X "int" := ⟨gl_of hS rfl, b_int⟩
  have z_zip : Bl C.X "zip" := ⟨gl_of hS rfl, b_zip⟩
  unfold t__law_lead
  walk_at "comp"
theorem sd__law_copied {C : Cn} {xc : Str → Addr} (hN : C.X.N = (["_law_thing", "_law_part"] : List Str)) (hS : C.X.env.scope = defScope s_law_copied) (nd : C.X.N.Nodup) (hc : C.X.calm = true) (hp : PassesOwn (model C.X.prog C.X.w) C.X.A C.X.env C.X.xe) (hr : Room 0 C.X.A) (tk : Takes C.X C.CW) (hfn : ∀ x, C.X.fn x = true) (hbk : C.X.env.blockKind = .function)
    {me : List Av → Rs Av}
    (b_isinstance : C.X.mg "isinstance" = none)
    (b_list : C.X.mg "list" = none)
    (b_tuple : C.X.mg "tuple" = none)
    (c__law_copied : ClN C "_law_copied" (aspT xc me))
    : SndSs C xc (defBody s_law_copied) (t__law_copied me) := by
  have n0 : Nm C.X 0 "_law_thing" := nm_of hN hS rfl (by first | exact .inl rfl | exact .inr (.inl rfl)) rfl rfl
  try have m0 : Lm C.X 0 "_law_thing" := lm_of hN hS rfl (.inl rfl) (.inr rfl)
  try have m0 : Lm C.X 0 "_law_thing" := lm_of hN hS rfl (.inr rfl) (.inl (hfn _))
  have i1 : Ix C 1 "_law_part" := ix_of hN rfl
  have z_isinstance : Bl C.X "isinstance" := ⟨gl_of hS rfl, b_isinstance⟩
  have z_list : Bl C.X "list" := ⟨gl_of hS rfl, b_list⟩
  have z_tuple : Bl C.X "tuple" := ⟨gl_of hS rfl, b_tuple⟩
  unfold t__law_copied
  walk_at "comp"
theorem sd__law_names_of {C : Cn} {xc : Str → Addr} (hN : C.X.N = (["_law_e", "_law_hits", "_law_words", "_law_word", "_law_hit"] : List Str)) (hS : C.X.env.scope = defScope s_law_names_of) (nd : C.X.N.Nodup) (hc : C.X.calm = true) (hp : PassesOwn (model C.X.prog C.X.w) C.X.A C.X.env C.X.xe) (hr : Room 0 C.X.A) (tk : Takes C.X C.CW) (hfn : ∀ x, C.X.fn x = true) (hbk : C.X.env.blockKind = .function)
    (b_isinstance : C.X.mg "isinstance" = none)
    (b_zip : C.X.mg "zip" = none)
    (XK : Xk C.X.K C.X.mg xc xl)
    : SndSs C xc (defBody s_law_names_of) (t__law_names_of xc) := by
  have n0 : Nm C.X 0 "_law_e" := nm_of hN hS rfl (by first | exact .inl rfl | exact .inr (.inl rfl)) rfl rfl
  try have m0 : Lm C.X 0 "_law_e" := lm_of hN hS rfl (.inl rfl) (.inr rfl)
  try have m0 : Lm C.X 0 "_law_e" := lm_of hN hS rfl (.inr rfl) (.inl (hfn _))
  have n1 : Nm C.X 1 "_law_hits" := nm_of hN hS rfl (by first | exact .inl rfl | exact .inr (.inl rfl)) rfl rfl
  try have m1 : Lm C.X 1 "_law_hits" := lm_of hN hS rfl (.inl rfl) (.inr rfl)
  try have m1 : Lm C.X 1 "_law_hits" := lm_of hN hS rfl (.inr rfl) (.inl (hfn _))
  have n2 : Nm C.X 2 "_law_words" := nm_of hN hS rfl (by first | exact .inl rfl | exact .inr (.inl rfl)) rfl rfl
  try have m2 : Lm C.X 2 "_law_words" := lm_of hN hS rfl (.inl rfl) (.inr rfl)
  try have m2 : Lm C.X 2 "_law_words" := lm_of hN hS rfl (.inr rfl) (.inl (hfn _))
  have i3 : Ix C 3 "_law_word" := ix_of hN rfl
  have i4 : Ix C 4 "_law_hit" := ix_of hN rfl
  have z_isinstance : Bl C.X "isinstance" := ⟨gl_of hS rfl, b_isinstance⟩
  have z_zip : Bl C.X "zip" := ⟨gl_of hS rfl, b_zip⟩
  unfold t__law_names_of
  walk_at "comp"
end KX

set_option Elab.async false
set_option linter.all false
set_option maxRecDepth 100000
set_option maxHeartbeats 4000000
namespace KX
open PySem PySem.Spec PyProof.Rows L2 M
local macro_rules | `(tactic| walk_at "nm") => `(tactic| first
  | assumption
  | exact nm_tr (by assumption)
  | exact nm_blk (by first | assumption | exact Nm.hN (by assumption)) (by first | exact .inl rfl | exact .inr (.inl rfl) | exact vis_rel rfl) rfl rfl
  | exact nm_gen (by first | assumption | exact Nm.hN (by assumption)) (by first | exact .inl rfl | exact .inr (.inl rfl) | exact .inr (.inr rfl)) rfl rfl)
local macro_rules | `(tactic| walk_at "bl") => `(tactic| first
  | assumption
  | exact ⟨rfl, by assumption⟩
  | exact ⟨Bl.hg (by assumption), Bl.hm (by assumption)⟩)
local macro_rules | `(tactic| walk_at "ix") => `(tactic| first | assumption | exact Nm.hN (by assumption))
local macro_rules | `(tactic| walk_at "tk") => `(tactic| first | assumption | exact takes_false fun _ _ _ z => z)
local macro_rules | `(tactic| walk_at "rm") => `(tactic| first | assumption)
local macro_rules | `(tactic| walk_at "cl") => `(tactic| first
  | (with_reducible assumption)
  | exact clN_blk (by with_reducible assumption) rfl
  | exact clN_blk2 (by with_reducible assumption) rfl
  | exact gl_gen (by with_reducible assumption) (by assumption) (by decide) rfl rfl
  | exact clN_tr (by with_reducible assumption) (gl_of (by assumption) rfl))
local macro_rules | `(tactic| walk_at "bk") => `(tactic| first
  | exact blk_of (by assumption) (by assumption) (by decide +kernel)
  | exact blk_of (by assumption) (relS_of (by assumption)) (by decide +kernel))
local macro_rules | `(tactic| walk_at "lv") => `(tactic| first | exact fun _ => ⟨.inl rfl, rfl⟩ | rfl)
local macro_rules | `(tactic| walk_at "ints") => `(tactic| (intro _ _ _ _ _))
local macro_rules | `(tactic| walk_at "comp") => `(tactic| repeat' (first
  | (with_reducible exact sds_nil)
  | (with_reducible exact sd_no)
  | (with_reducible exact snd_no)
  | (with_reducible refine' sds_frz ?_)
  | (with_reducible refine' sds_cons ?_ ?_)
  | ((with_reducible refine' sds_open ?_ ?_); rotate_left 3; exact rfl)
  | ((with_reducible refine' snd_var ?_); walk_at "nm")
  | (with_reducible exact snd_int)
  | (with_reducible exact snd_bool)
  | (with_reducible exact snd_none)
  | (with_reducible exact snd_str)
  | ((with_reducible refine' snd_globI ?_); first | assumption | exact ⟨rfl, by assumption, rfl⟩)
  | ((with_reducible refine' snd_kd ?_); first | assumption | exact ⟨rfl, rfl, by assumption⟩)
  | (with_reducible refine' snd_add ?_ ?_)
  | (with_reducible refine' snd_sub ?_ ?_)
  | (with_reducible refine' snd_mul ?_ ?_)
  | (with_reducible refine' snd_fdiv ?_ ?_)
  | (with_reducible refine' snd_mod ?_ ?_)
  | (with_reducible refine' snd_pow ?_ ?_)
  | (with_reducible refine' snd_shl ?_ ?_)
  | (with_reducible refine' snd_shr ?_ ?_)
  | (with_reducible refine' snd_band ?_ ?_)
  | (with_reducible refine' snd_neg ?_)
  | (with_reducible refine' snd_lt ?_ ?_)
  | (with_reducible refine' snd_le ?_ ?_)
  | (with_reducible refine' snd_gt ?_ ?_)
  | (with_reducible refine' snd_ge ?_ ?_)
  | ((with_reducible refine' snd_eq ?_ ?_ ?_); rotate_left 1; assumption)
  | ((with_reducible refine' snd_ne ?_ ?_ ?_); rotate_left 1; assumption)
  | ((with_reducible refine' snd_in ?_ ?_ ?_ ?_); rotate_left 1; assumption; rfl)
  | ((with_reducible refine' snd_ni ?_ ?_ ?_ ?_); rotate_left 1; assumption; rfl)
  | (with_reducible refine' snd_isN ?_)
  | (with_reducible refine' snd_isNn ?_)
  | (with_reducible refine' sdT_bor ?_)
  | (with_reducible refine' snd_bor ?_)
  | (with_reducible refine' sdT_lt ?_ ?_)
  | (with_reducible refine' sdT_le ?_ ?_)
  | (with_reducible refine' sdT_gt ?_ ?_)
  | (with_reducible refine' sdT_ge ?_ ?_)
  | ((with_reducible refine' sdT_eq ?_ ?_ ?_); rotate_left 1; assumption)
  | ((with_reducible refine' sdT_ne ?_ ?_ ?_); rotate_left 1; assumption)
  | ((with_reducible refine' sdT_in ?_ ?_ ?_ ?_); rotate_left 1; assumption; rfl)
  | ((with_reducible refine' sdT_ni ?_ ?_ ?_ ?_); rotate_left 1; assumption; rfl)
  | (with_reducible refine' sdT_isN ?_)
  | (with_reducible refine' sdT_isNn ?_)
  | (with_reducible refine' snd_chLe rfl ?_ ?_ ?_)
  | (with_reducible refine' sdT_chLe rfl ?_ ?_ ?_)
  | (with_reducible refine' sdT_chLeLt rfl ?_ ?_ ?_)
  | (with_reducible refine' sdT_not ?_)
  | (with_reducible refine' sdW_one ?_)
  | (with_reducible refine' sdW_and ?_ ?_)
  | (with_reducible refine' sdW_or ?_ ?_)
  | (with_reducible refine' sdT_bop ?_)
  | (with_reducible refine' sdT_call ?_)
  | (with_reducible refine' sdT_name ?_)
  | (with_reducible refine' snd_one ?_)
  | (with_reducible refine' snd_and ?_ ?_)
  | (with_reducible refine' snd_or ?_ ?_)
  | (with_reducible refine' snd_not ?_)
  | (with_reducible refine' snd_if ?_ ?_ ?_)
  | (with_reducible exact sdA_nil)
  | ((with_reducible refine' sdA_cons ?_ ?_ ?_); rotate_left 2; exact rfl)
  | (with_reducible refine' snd_lst ?_)
  | (with_reducible refine' snd_tup ?_)
  | ((with_reducible refine' snd_len ?_ ?_ ?_ ?_); (walk_at "bl"); rotate_left 1; exact rfl; exact rfl)
  | ((with_reducible refine' snd_abs ?_ ?_ ?_ ?_); (walk_at "bl"); rotate_left 1; exact rfl; exact rfl)
  | ((with_reducible refine' snd_list ?_ ?_ ?_ ?_); (walk_at "bl"); rotate_left 1; exact rfl; exact rfl)
  | ((with_reducible refine' snd_sorted ?_ ?_ ?_ ?_ ?_); rotate_left 1; assumption; (walk_at "bl"); rotate_left 1; exact rfl; exact rfl)
  | ((with_reducible refine' snd_max1 ?_ ?_ ?_ ?_); assumption; (walk_at "bl"); rotate_left 1; exact rfl)
  | ((with_reducible refine' snd_min1 ?_ ?_ ?_ ?_); assumption; (walk_at "bl"); rotate_left 1; exact rfl)
  | ((with_reducible refine' snd_max2 ?_ ?_ ?_ ?_ ?_); assumption; (walk_at "bl"); rotate_left 1; exact rfl; exact rfl)
  | ((with_reducible refine' snd_min2 ?_ ?_ ?_ ?_ ?_); assumption; (walk_at "bl"); rotate_left 1; exact rfl; exact rfl)
  | ((with_reducible refine' snd_sum ?_ ?_ ?_ ?_); assumption; (walk_at "bl"); rotate_left 1; exact rfl)
  | ((with_reducible refine' snd_intB ?_ ?_ ?_); (walk_at "bl"); rotate_left 1; exact rfl)
  | ((with_reducible refine' snd_isi kit_int ?_ ?_ ?_ ?_ ?_ ?_); (walk_at "bl"); (walk_at "bl"); rotate_left 1; exact rfl; exact rfl; exact rfl)
  | ((with_reducible refine' snd_isi kit_bool ?_ ?_ ?_ ?_ ?_ ?_); (walk_at "bl"); (walk_at "bl"); rotate_left 1; exact rfl; exact rfl; exact rfl)
  | ((with_reducible refine' snd_isi kit_list ?_ ?_ ?_ ?_ ?_ ?_); (walk_at "bl"); (walk_at "bl"); rotate_left 1; exact rfl; exact rfl; exact rfl)
  | ((with_reducible refine' snd_isi kit_tuple ?_ ?_ ?_ ?_ ?_ ?_); (walk_at "bl"); (walk_at "bl"); rotate_left 1; exact rfl; exact rfl; exact rfl)
  | ((with_reducible refine' snd_isi kit_str ?_ ?_ ?_ ?_ ?_ ?_); (walk_at "bl"); (walk_at "bl"); rotate_left 1; exact rfl; exact rfl; exact rfl)
  | ((with_reducible refine' snd_isVE ?_ ?_ ?_ ?_ ?_ ?_ ?_); (walk_at "bl"); (walk_at "bl"); assumption; rotate_left 1; exact rfl; exact rfl; exact rfl)
  | ((with_reducible refine' snd_isX ?_ ?_ ?_ ?_ ?_ ?_ ?_ ?_ ?_); (walk_at "bl"); assumption; decide; (first | exact gl_of (by assumption) rfl | exact rfl); rfl; rotate_left 1; exact rfl; exact rfl; exact rfl)
  | ((with_reducible refine' snd_tupleL ?_ ?_ ?_); (walk_at "bl"); rotate_left 1; exact rfl)
  | ((with_reducible refine' snd_lenSet ?_ ?_ ?_ ?_ ?_); (walk_at "bl"); (walk_at "bl"); assumption; rotate_left 1; exact rfl)
  | ((with_reducible refine' snd_lenO ?_ ?_ ?_); (walk_at "bl"); (walk_at "nm"); exact rfl)
  | ((with_reducible refine' snd_ixO ?_ ?_ ?_); (walk_at "nm"); (intro _ _; rfl))
  | ((with_reducible refine' snd_ix ?_ ?_ ?_); (intro _ _; rfl))
  | ((with_reducible refine' snd_ixD ?_ ?_ ?_ ?_); rotate_left 1; assumption; (intro _ _; rfl))
  | ((with_reducible refine' snd_index ?_ ?_ ?_ ?_ ?_ ?_); rotate_left 2; exact rfl; exact rfl; exact rfl; exact rfl)
  | (with_reducible exact sdO_none)
  | (with_reducible refine' sdO_some ?_)
  | (with_reducible refine' snd_slice ?_ ?_ ?_)
  | (with_reducible refine' snd_rev ?_)
  | ((with_reducible refine' snd_call ?_ ?_ ?_ ?_ ?_); (walk_at "cl"); (walk_at "tk"); rotate_left 1; exact rfl; exact rfl)
  | ((with_reducible refine' snd_lc10 ?_ ?_ ?_ ?_ ?_ ?_ ?_ ?_); assumption; assumption; (walk_at "ix"); (walk_at "bk"); rotate_left 2; (walk_at "lv"); (intro _; rfl); rotate_left 1; (walk_at "ints"))
  | ((with_reducible refine' snd_lc11 ?_ ?_ ?_ ?_ ?_ ?_ ?_ ?_ ?_); assumption; assumption; (walk_at "ix"); (walk_at "bk"); rotate_left 3; (walk_at "lv"); (intro _; rfl); rotate_left 1; (walk_at "ints"); rotate_left 1; (walk_at "ints"))
  | ((with_reducible refine' snd_lc20 ?_ ?_ ?_ ?_ ?_ ?_ ?_ ?_ ?_ ?_); assumption; assumption; (walk_at "ix"); (walk_at "ix"); (walk_at "bk"); rotate_left 2; (walk_at "lv"); (walk_at "lv"); (intro _; rfl); rotate_left 1; (walk_at "ints"))
  | ((with_reducible refine' snd_lc21 ?_ ?_ ?_ ?_ ?_ ?_ ?_ ?_ ?_ ?_ ?_); assumption; assumption; (walk_at "ix"); (walk_at "ix"); (walk_at "bk"); rotate_left 3; (walk_at "lv"); (walk_at "lv"); (intro _; rfl); rotate_left 1; (walk_at "ints"); rotate_left 1; (walk_at "ints"))
  | ((with_reducible refine' snd_dc2 ?_ ?_ ?_ ?_ ?_ ?_ ?_ ?_ ?_ ?_ ?_); assumption; assumption; (walk_at "ix"); (walk_at "ix"); (walk_at "bk"); rotate_left 3; (walk_at "lv"); (walk_at "lv"); (intro _; rfl); rotate_left 1; (walk_at "ints"); rotate_left 1; (walk_at "ints"))
  | ((with_reducible refine' sdI_rg1 ?_ ?_ ?_ ?_); (walk_at "bl"); rotate_left 1; exact rfl; exact rfl)
  | ((with_reducible refine' sdI_rg2 ?_ ?_ ?_ ?_ ?_ ?_ ?_); (walk_at "bl"); rotate_left 2; exact rfl; exact rfl; exact rfl; exact rfl)
  | ((with_reducible refine' sdI_en ?_ ?_ ?_ ?_); (walk_at "bl"); rotate_left 1; exact rfl; exact rfl)
  | ((with_reducible refine' sdI_zip ?_ ?_ ?_ ?_ ?_ ?_); (walk_at "bl"); rotate_left 2; exact rfl; exact rfl; exact rfl)
  | ((with_reducible refine' sdI_rev ?_ ?_ ?_ ?_); (walk_at "bl"); rotate_left 1; exact rfl; exact rfl)
  | (with_reducible refine' sdI_tup ?_)
  | (with_reducible refine' sdI_list ?_)
  | (with_reducible refine' sdF_bor ?_)
  | (with_reducible refine' sdF_lst ?_)
  | ((with_reducible refine' sdF_list ?_ ?_ ?_ ?_); (walk_at "bl"); rotate_left 1; exact rfl; exact rfl)
  | (with_reducible refine' sdF_slice ?_ ?_ ?_)
  | (with_reducible refine' sdF_rev ?_)
  | ((with_reducible refine' snd_gen10 csm_sum ?_ ?_ ?_ ?_ ?_ ?_ ?_ ?_ ?_ ?_ ?_ ?_ ?_ ?_ ?_ ?_ ?_ ?_); walk_at "gen1")
  | ((with_reducible refine' snd_gen10 csm_min ?_ ?_ ?_ ?_ ?_ ?_ ?_ ?_ ?_ ?_ ?_ ?_ ?_ ?_ ?_ ?_ ?_ ?_); walk_at "gen1")
  | ((with_reducible refine' snd_gen10 csm_all ?_ ?_ ?_ ?_ ?_ ?_ ?_ ?_ ?_ ?_ ?_ ?_ ?_ ?_ ?_ ?_ ?_ ?_); walk_at "gen1")
  | ((with_reducible refine' snd_gen10 csm_any ?_ ?_ ?_ ?_ ?_ ?_ ?_ ?_ ?_ ?_ ?_ ?_ ?_ ?_ ?_ ?_ ?_ ?_); walk_at "gen1")
  | ((with_reducible refine' snd_gen20 csm_sum ?_ ?_ ?_ ?_ ?_ ?_ ?_ ?_ ?_ ?_ ?_ ?_ ?_ ?_ ?_ ?_ ?_ ?_ ?_ ?_); walk_at "gen2")
  | ((with_reducible refine' snd_gen20 csm_all ?_ ?_ ?_ ?_ ?_ ?_ ?_ ?_ ?_ ?_ ?_ ?_ ?_ ?_ ?_ ?_ ?_ ?_ ?_ ?_); walk_at "gen2")
  | ((with_reducible refine' snd_gen20 csm_any ?_ ?_ ?_ ?_ ?_ ?_ ?_ ?_ ?_ ?_ ?_ ?_ ?_ ?_ ?_ ?_ ?_ ?_ ?_ ?_); walk_at "gen2")
  | ((with_reducible refine' snd_gen21 csm_sum ?_ ?_ ?_ ?_ ?_ ?_ ?_ ?_ ?_ ?_ ?_ ?_ ?_ ?_ ?_ ?_ ?_ ?_ ?_ ?_ ?_); walk_at "gen3")
  | (with_reducible refine' sd_ret ?_)
  | (with_reducible exact sd_retN)
  | (with_reducible refine' sd_if ?_ ?_ ?_)
  | (with_reducible exact sd_bk)
  | (with_reducible exact sd_ct)
  | (with_reducible exact sd_pass)
  | ((with_reducible refine' sd_asgLc10 ?_ ?_ ?_ ?_ ?_ ?_ ?_ ?_ ?_ ?_ ?_); assumption; assumption; (walk_at "ix"); (walk_at "ix"); (exact hyl_of (by assumption) (by decide +kernel)); (exact swp_t (by assumption) (by assumption) rfl rfl rfl); (walk_at "bk"); rotate_left 2; (walk_at "lv"); (intro _; rfl); rotate_left 1; (walk_at "ints"))
  | ((with_reducible refine' sd_asgLc11 ?_ ?_ ?_ ?_ ?_ ?_ ?_ ?_ ?_ ?_ ?_ ?_); assumption; assumption; (walk_at "ix"); (walk_at "ix"); (exact hyl_of (by assumption) (by decide +kernel)); (exact swp_t (by assumption) (by assumption) rfl rfl rfl); (walk_at "bk"); rotate_left 3; (walk_at "lv"); (intro _; rfl); rotate_left 1; (walk_at "ints"); rotate_left 1; (walk_at "ints"))
  | ((with_reducible refine' sd_asgLc20 ?_ ?_ ?_ ?_ ?_ ?_ ?_ ?_ ?_ ?_ ?_ ?_ ?_); assumption; assumption; (walk_at "ix"); (walk_at "ix"); (exact hyl_of (by assumption) (by decide +kernel)); (walk_at "ix"); (exact swp_t (by assumption) (by assumption) rfl rfl rfl); (walk_at "bk"); rotate_left 2; (walk_at "lv"); (walk_at "lv"); (intro _; rfl); rotate_left 1; (walk_at "ints"))
  | ((with_reducible refine' sd_asgLc21 ?_ ?_ ?_ ?_ ?_ ?_ ?_ ?_ ?_ ?_ ?_ ?_ ?_ ?_); assumption; assumption; (walk_at "ix"); (walk_at "ix"); (exact hyl_of (by assumption) (by decide +kernel)); (walk_at "ix"); (exact swp_t (by assumption) (by assumption) rfl rfl rfl); (walk_at "bk"); rotate_left 3; (walk_at "lv"); (walk_at "lv"); (intro _; rfl); rotate_left 1; (walk_at "ints"); rotate_left 1; (walk_at "ints"))
  | ((with_reducible refine' sd_asg ?_ ?_ ?_ ?_); assumption; assumption; rotate_left 1; (first | exact rfl | ((refine' swp_f ?_ ?_); rotate_left 1; assumption; exact rfl) | ((refine' swp_f ?_ ?_); rotate_left 1; assumption; decide +kernel)))
  | ((with_reducible refine' sd_own ?_ ?_ ?_ ?_); assumption; assumption; rotate_left 1; exact rfl)
  | ((with_reducible refine' sd_appPop ?_ ?_ ?_ ?_ ?_ ?_ ?_ ?_ ?_ ?_ ?_ ?_); (walk_at "nm"); (walk_at "nm"); rotate_left 1; exact rfl; exact rfl; exact rfl; exact rfl; exact rfl; exact rfl; exact rfl; exact rfl; exact rfl)
  | ((with_reducible refine' sd_app ?_ ?_ ?_ ?_ ?_ ?_ ?_); (walk_at "nm"); rotate_left 1; exact rfl; exact rfl; exact rfl; exact rfl; exact rfl)
  | ((with_reducible refine' sd_ins ?_ ?_ ?_ ?_ ?_ ?_ ?_ ?_ ?_ ?_); (walk_at "nm"); rotate_left 2; exact rfl; exact rfl; exact rfl; exact rfl; exact rfl; exact rfl; exact rfl)
  | ((with_reducible refine' sd_setO ?_ ?_ ?_ ?_ ?_ ?_ ?_); (walk_at "nm"); rotate_left 2; exact rfl; exact rfl; exact rfl; (intro _; rfl))
  | ((with_reducible refine' sd_for1 ?_ ?_ ?_ ?_ ?_ ?_ ?_); assumption; assumption; assumption; assumption; rotate_left 2; (intro _; rfl))
  | ((with_reducible refine' sd_for2 ?_ ?_ ?_ ?_ ?_ ?_ ?_ ?_); assumption; assumption; assumption; assumption; assumption; rotate_left 2; (intro _; rfl))
  | ((with_reducible refine' sd_while ?_ ?_ ?_); assumption)
  | ((with_reducible refine' sd_aug ip_add ?_ ?_ ?_); assumption; assumption)
  | ((with_reducible refine' sd_aug ip_sub ?_ ?_ ?_); assumption; assumption)
  | ((with_reducible refine' sd_asg2 ?_ ?_ ?_ ?_ ?_ ?_); assumption; assumption; assumption; rotate_left 1; exact rfl; exact rfl)
  | ((with_reducible refine' sd_par2 ?_ ?_ ?_ ?_ ?_ ?_ ?_ ?_ ?_ ?_); assumption; assumption; assumption; assumption; decide; (exact hyl_of (by assumption) (by decide +kernel)); (exact hyl_of (by assumption) (by decide +kernel)); rotate_left 1; exact rfl; exact rfl)
  | ((with_reducible refine' sd_un2 ?_ ?_ ?_ ?_ ?_ ?_ ?_ ?_); assumption; assumption; assumption; assumption; rotate_left 1; exact rfl; exact rfl; exact rfl)
  | ((with_reducible refine' sd_raise ?_ ?_ ?_ ?_ ?_ ?_ ?_); rotate_left 1; assumption; (walk_at "tk"); assumption; decide; decide; (exact gl_of (by assumption) rfl); decide)
  | ((with_reducible refine' sd_try ?_ ?_ ?_ ?_ ?_ ?_ ?_ ?_ ?_ ?_ ?_ ?_ ?_); assumption; assumption; (walk_at "tk"); (walk_at "nm"); (exact hyl_of (by assumption) (by decide +kernel)); assumption; (exact hyl_of (by assumption) (by decide +kernel)); assumption; (exact gl_of (by assumption) rfl); rotate_left 1; decide; (exact hyl_of (by assumption) (by decide +kernel)); exact rfl; (intro _ _ _ _ _ _ _))
  | ((with_reducible refine' sd_expr ?_ ?_); rotate_left 1; exact rfl)
  | fail))
local macro_rules | `(tactic| walk_at "gen0") => `(tactic| (skip))
local macro_rules | `(tactic| walk_at "gens") => `(tactic| exact ⟨rfl, rfl, by decide +kernel, rfl⟩)
local macro_rules | `(tactic| walk_at "boot") => `(tactic| first | exact boot_sum1 | exact boot_all1 | exact boot_any1 | exact boot_min1)
local macro_rules | `(tactic| walk_at "gen1") => `(tactic| (rotate_left 3; assumption; (walk_at "bl"); (walk_at "boot"); assumption; assumption; assumption; assumption; assumption; (walk_at "ix"); (walk_at "bk"); (walk_at "gens"); rotate_left 2; (walk_at "lv"); (intro _; rfl); exact rfl; decide; decide; rotate_left 1; (intro _ _ _ _ _ _ _ _ _)))
local macro_rules | `(tactic| walk_at "gen2") => `(tactic| (rotate_left 3; assumption; (walk_at "bl"); (walk_at "boot"); assumption; assumption; assumption; assumption; assumption; (walk_at "ix"); (walk_at "ix"); (walk_at "bk"); (walk_at "gens"); rotate_left 2; (walk_at "lv"); (walk_at "lv"); (intro _; rfl); exact rfl; decide; decide; rotate_left 1; (intro _ _ _ _ _ _ _ _ _)))
local macro_rules | `(tactic| walk_at "gen3") => `(tactic| (rotate_left 3; assumption; (walk_at "bl"); (walk_at "boot"); assumption; assumption; assumption; assumption; assumption; (walk_at "ix"); (walk_at "ix"); (walk_at "bk"); (walk_at "gens"); rotate_left 3; (walk_at "lv"); (walk_at "lv"); (intro _; rfl); exact rfl; decide; decide; rotate_left 1; (intro _ _ _ _ _ _ _ _ _); rotate_left 1; (intro _ _ _ _ _ _ _ _ _)))

theorem sd__law_refused {C : Cn} {xc : Str → Addr} (hN : C.X.N = (["_law_folk_here", "_law_weights_here", "_law_one", "_law_other", "_law_caught", "_law_e"] : List Str)) (hS : C.X.env.scope = defScope s_law_refused) (nd : C.X.N.Nodup) (hc : C.X.calm = true) (hp : PassesOwn (model C.X.prog C.X.w) C.X.A C.X.env C.X.xe) (hr : Room 15 C.X.A) (tk : Takes C.X C.CW) (hfn : ∀ x, C.X.fn x = true) (hbk : C.X.env.blockKind = .function)
    (b_ValueError : C.X.mg "ValueError" = none)
    (b_isinstance : C.X.mg "isinstance" = none)
    (c_margin : ClN C "margin" (aspT xc f_margin))
    (c__law_names_of : ClN C "_law_names_of" (aspT xc (f__law_names_of xc)))
    (XK : Xk C.X.K C.X.mg xc xl)
    (fw : Fw C.X)
    : SndSs C xc (defBody s_law_refused) (t__law_refused xc) := by
  have n0 : Nm C.X 0 "_law_folk_here" := nm_of hN hS rfl (by first | exact .inl rfl | exact .inr (.inl rfl)) rfl rfl
  try have m0 : Lm C.X 0 "_law_folk_here" := lm_of hN hS rfl (.inl rfl) (.inr rfl)
  try have m0 : Lm C.X 0 "_law_folk_here" := lm_of hN hS rfl (.inr rfl) (.inl (hfn _))
  have n1 : Nm C.X 1 "_law_weights_here" := nm_of hN hS rfl (by first | exact .inl rfl | exact .inr (.inl rfl)) rfl rfl
  try have m1 : Lm C.X 1 "_law_weights_here" := lm_of hN hS rfl (.inl rfl) (.inr rfl)
  try have m1 : Lm C.X 1 "_law_weights_here" := lm_of hN hS rfl (.inr rfl) (.inl (hfn _))
  have n2 : Nm C.X 2 "_law_one" := nm_of hN hS rfl (by first | exact .inl rfl | exact .inr (.inl rfl)) rfl rfl
  try have m2 : Lm C.X 2 "_law_one" := lm_of hN hS rfl (.inl rfl) (.inr rfl)
  try have m2 : Lm C.X 2 "_law_one" := lm_of hN hS rfl (.inr rfl) (.inl (hfn _))
  have n3 : Nm C.X 3 "_law_other" := nm_of hN hS rfl (by first | exact .inl rfl | exact .inr (.inl rfl)) rfl rfl
  try have m3 : Lm C.X 3 "_law_other" := lm_of hN hS rfl (.inl rfl) (.inr rfl)
  try have m3 : Lm C.X 3 "_law_other" := lm_of hN hS rfl (.inr rfl) (.inl (hfn _))
  have n4 : Nm C.X 4 "_law_caught" := nm_of hN hS rfl (by first | exact .inl rfl | exact .inr (.inl rfl)) rfl rfl
  try have m4 : Lm C.X 4 "_law_caught" := lm_of hN hS rfl (.inl rfl) (.inr rfl)
  try have m4 : Lm C.X 4 "_law_caught" := lm_of hN hS rfl (.inr rfl) (.inl (hfn _))
  have n5 : Nm C.X 5 "_law_e" := nm_of hN hS rfl (by first | exact .inl rfl | exact .inr (.inl rfl)) rfl rfl
  try have m5 : Lm C.X 5 "_law_e" := lm_of hN hS rfl (.inl rfl) (.inr rfl)
  try have m5 : Lm C.X 5 "_law_e" := lm_of hN hS rfl (.inr rfl) (.inl (hfn _))
  have z_ValueError : Bl C.X "ValueError" := ⟨gl_of hS rfl, b_ValueError⟩
  have z_isinstance : Bl C.X "isinstance" := ⟨gl_of hS rfl, b_isinstance⟩
  have cc_margin : Cl C "margin" (aspT xc f_margin) := clN_top c_margin (gl_of hS rfl)
  have cc__law_names_of : Cl C "_law_names_of" (aspT xc (f__law_names_of xc)) := clN_top c__law_names_of (gl_of hS rfl)
  unfold t__law_refused
  walk_at "comp"
theorem sd_law {C : Cn} {xc : Str → Addr} (hN : C.X.N = (["_law_script", "_law_draws_here", "_law_line_here", "_law_hands", "_law_folk_here", "_law_weights_here", "_law_handed", "_law_one", "_law_other", "_law_found", "_law_gaps", "_law_name"] : List Str)) (hS : C.X.env.scope = defScope slaw) (nd : C.X.N.Nodup) (hc : C.X.calm = true) (hp : PassesOwn (model C.X.prog C.X.w) C.X.A C.X.env C.X.xe) (hr : Room 16 C.X.A) (tk : Takes C.X C.CW) (hfn : ∀ x, C.X.fn x = true) (hbk : C.X.env.blockKind = .function)
    (b_int : C.X.mg "int" = none)
    (b_len : C.X.mg "len" = none)
    (b_max : C.X.mg "max" = none)
    (c__law_draws : ClN C "_law_draws" (aspT xc f__law_draws))
    (c__law_line : ClN C "_law_line" (aspT xc f__law_line))
    (c__law_folk : ClN C "_law_folk" (aspT xc f__law_folk))
    (c__law_weights : ClN C "_law_weights" (aspT xc f__law_weights))
    (c__law_copied : ClN C "_law_copied" (aspT xc f__law_copied))
    (c_margin : ClN C "margin" (aspT xc f_margin))
    (c__law_whole : ClN C "_law_whole" (aspT xc f__law_whole))
    (c__law_lead : ClN C "_law_lead" (aspT xc f__law_lead))
    (c__law_refused : ClN C "_law_refused" (aspT xc (f__law_refused xc)))
    : SndSs C xc (defBody slaw) (t_law xc) := by
  have n0 : Nm C.X 0 "_law_script" := nm_of hN hS rfl (by first | exact .inl rfl | exact .inr (.inl rfl)) rfl rfl
  try have m0 : Lm C.X 0 "_law_script" := lm_of hN hS rfl (.inl rfl) (.inr rfl)
  try have m0 : Lm C.X 0 "_law_script" := lm_of hN hS rfl (.inr rfl) (.inl (hfn _))
  have n1 : Nm C.X 1 "_law_draws_here" := nm_of hN hS rfl (by first | exact .inl rfl | exact .inr (.inl rfl)) rfl rfl
  try have m1 : Lm C.X 1 "_law_draws_here" := lm_of hN hS rfl (.inl rfl) (.inr rfl)
  try have m1 : Lm C.X 1 "_law_draws_here" := lm_of hN hS rfl (.inr rfl) (.inl (hfn _))
  have n2 : Nm C.X 2 "_law_line_here" := nm_of hN hS rfl (by first | exact .inl rfl | exact .inr (.inl rfl)) rfl rfl
  try have m2 : Lm C.X 2 "_law_line_here" := lm_of hN hS rfl (.inl rfl) (.inr rfl)
  try have m2 : Lm C.X 2 "_law_line_here" := lm_of hN hS rfl (.inr rfl) (.inl (hfn _))
  have n3 : Nm C.X 3 "_law_hands" := nm_of hN hS rfl (by first | exact .inl rfl | exact .inr (.inl rfl)) rfl rfl
  try have m3 : Lm C.X 3 "_law_hands" := lm_of hN hS rfl (.inl rfl) (.inr rfl)
  try have m3 : Lm C.X 3 "_law_hands" := lm_of hN hS rfl (.inr rfl) (.inl (hfn _))
  have n4 : Nm C.X 4 "_law_folk_here" := nm_of hN hS rfl (by first | exact .inl rfl | exact .inr (.inl rfl)) rfl rfl
  try have m4 : Lm C.X 4 "_law_folk_here" := lm_of hN hS rfl (.inl rfl) (.inr rfl)
  try have m4 : Lm C.X 4 "_law_folk_here" := lm_of hN hS rfl (.inr rfl) (.inl (hfn _))
  have n5 : Nm C.X 5 "_law_weights_here" := nm_of hN hS rfl (by first | exact .inl rfl | exact .inr (.inl rfl)) rfl rfl
  try have m5 : Lm C.X 5 "_law_weights_here" := lm_of hN hS rfl (.inl rfl) (.inr rfl)
  try have m5 : Lm C.X 5 "_law_weights_here" := lm_of hN hS rfl (.inr rfl) (.inl (hfn _))
  have n6 : Nm C.X 6 "_law_handed" := nm_of hN hS rfl (by first | exact .inl rfl | exact .inr (.inl rfl)) rfl rfl
  try have m6 : Lm C.X 6 "_law_handed" := lm_of hN hS rfl (.inl rfl) (.inr rfl)
  try have m6 : Lm C.X 6 "_law_handed" := lm_of hN hS rfl (.inr rfl) (.inl (hfn _))
  have n7 : Nm C.X 7 "_law_one" := nm_of hN hS rfl (by first | exact .inl rfl | exact .inr (.inl rfl)) rfl rfl
  try have m7 : Lm C.X 7 "_law_one" := lm_of hN hS rfl (.inl rfl) (.inr rfl)
  try have m7 : Lm C.X 7 "_law_one" := lm_of hN hS rfl (.inr rfl) (.inl (hfn _))
  have n8 : Nm C.X 8 "_law_other" := nm_of hN hS rfl (by first | exact .inl rfl | exact .inr (.inl rfl)) rfl rfl
  try have m8 : Lm C.X 8 "_law_other" := lm_of hN hS rfl (.inl rfl) (.inr rfl)
  try have m8 : Lm C.X 8 "_law_other" := lm_of hN hS rfl (.inr rfl) (.inl (hfn _))
  have n9 : Nm C.X 9 "_law_found" := nm_of hN hS rfl (by first | exact .inl rfl | exact .inr (.inl rfl)) rfl rfl
  try have m9 : Lm C.X 9 "_law_found" := lm_of hN hS rfl (.inl rfl) (.inr rfl)
  try have m9 : Lm C.X 9 "_law_found" := lm_of hN hS rfl (.inr rfl) (.inl (hfn _))
  have n10 : Nm C.X 10 "_law_gaps" := nm_of hN hS rfl (by first | exact .inl rfl | exact .inr (.inl rfl)) rfl rfl
  try have m10 : Lm C.X 10 "_law_gaps" := lm_of hN hS rfl (.inl rfl) (.inr rfl)
  try have m10 : Lm C.X 10 "_law_gaps" := lm_of hN hS rfl (.inr rfl) (.inl (hfn _))
  have i11 : Ix C 11 "_law_name" := ix_of hN rfl
  have z_int : Bl C.X "int" := ⟨gl_of hS rfl, b_int⟩
  have z_len : Bl C.X "len" := ⟨gl_of hS rfl, b_len⟩
  have z_max : Bl C.X "max" := ⟨gl_of hS rfl, b_max⟩
  have cc__law_draws : Cl C "_law_draws" (aspT xc f__law_draws) := clN_top c__law_draws (gl_of hS rfl)
  have cc__law_line : Cl C "_law_line" (aspT xc f__law_line) := clN_top c__law_line (gl_of hS rfl)
  have cc__law_folk : Cl C "_law_folk" (aspT xc f__law_folk) := clN_top c__law_folk (gl_of hS rfl)
  have cc__law_weights : Cl C "_law_weights" (aspT xc f__law_weights) := clN_top c__law_weights (gl_of hS rfl)
  have cc__law_copied : Cl C "_law_copied" (aspT xc f__law_copied) := clN_top c__law_copied (gl_of hS rfl)
  have cc_margin : Cl C "margin" (aspT xc f_margin) := clN_top c_margin (gl_of hS rfl)
  have cc__law_whole : Cl C "_law_whole" (aspT xc f__law_whole) := clN_top c__law_whole (gl_of hS rfl)
  have cc__law_lead : Cl C "_law_lead" (aspT xc f__law_lead) := clN_top c__law_lead (gl_of hS rfl)
  have cc__law_refused : Cl C "_law_refused" (aspT xc (f__law_refused xc)) := clN_top c__law_refused (gl_of hS rfl)
  unfold t_law
  walk_at "comp"
end KX

set_option Elab.async false
set_option linter.all false
set_option maxRecDepth 100000
set_option maxHeartbeats 4000000
namespace KX
open PySem PySem.Spec PyProof.Rows L2 M
structure Fr (K : PySem.W.Frag) (mg : Str → Option Value) : Prop where
  len_ : mg "len" = none
  isinstance_ : mg "isinstance" = none
  int_ : mg "int" = none
  bool_ : mg "bool" = none
  list_ : mg "list" = none
  range_ : mg "range" = none
  sorted_ : mg "sorted" = none
  set_ : mg "set" = none
  all_ : mg "all" = none
  max_ : mg "max" = none
  min_ : mg "min" = none
  tuple_ : mg "tuple" = none
  sum_ : mg "sum" = none
  zip_ : mg "zip" = none
  ValueError_ : mg "ValueError" = none
  c_MOST_NAMES : ∃ t, mg "MOST_NAMES" = some (.int 10 t)
  c_MOST_HANDS : ∃ t, mg "MOST_HANDS" = some (.int 20 t)

section
variable {P : Program} {w : World} {K : PySem.W.Frag} {mg : Str → Option Value} {base : Heap} {f : Addr} {fd : FuncData} {W : Wo} {xc : Str → Addr}
theorem ok_is_whole (F : FunD K "is_whole" "is_whole" (defArgs sis_whole) (defBody sis_whole) (defScope sis_whole) [] [] f fd) (R : Fr K mg)   : FnOk P w K mg base (CX P w) 1 f fd ["thing"] (spOf { W with K := K } (aspT xc f_is_whole)) := by
  obtain ⟨len_, isinstance_, int_, bool_, list_, range_, sorted_, set_, all_, max_, min_, tuple_, sum_, zip_, ValueError_, c_MOST_NAMES, c_MOST_HANDS⟩ := R
  refine fd_T (N := ["thing"]) (a := 1) (m := 0) (s := t_is_whole) F ⟨rfl, rfl, rfl, by decide +kernel, rfl, by decide +kernel, by decide +kernel⟩ rfl rfl fun cd A outer sh H E G RE B hcd => ?_
  exact sd_is_whole rfl rfl B.nd B.calm B.own B.room B.tk (fun _ => rfl) rfl bool_ int_ isinstance_
theorem ok_is_name (F : FunD K "is_name" "is_name" (defArgs sis_name) (defBody sis_name) (defScope sis_name) [] [] f fd) (R : Fr K mg) (g_is_whole : FnG P w K mg base W "is_whole" 1 (aspT xc f_is_whole))  : FnOk P w K mg base (CX P w) 2 f fd ["thing"] (spOf { W with K := K } (aspT xc f_is_name)) := by
  obtain ⟨len_, isinstance_, int_, bool_, list_, range_, sorted_, set_, all_, max_, min_, tuple_, sum_, zip_, ValueError_, c_MOST_NAMES, c_MOST_HANDS⟩ := R
  refine fd_T (N := ["thing"]) (a := 1) (m := 0) (s := t_is_name) F ⟨rfl, rfl, rfl, by decide +kernel, rfl, by decide +kernel, by decide +kernel⟩ rfl rfl fun cd A outer sh H E G RE B hcd => ?_
  exact sd_is_name rfl rfl B.nd B.calm B.own B.room B.tk (fun _ => rfl) rfl ⟨_, _, g_is_whole, B.room, by decide, rfl⟩
theorem ok_is_ranking (F : FunD K "is_ranking" "is_ranking" (defArgs sis_ranking) (defBody sis_ranking) (defScope sis_ranking) [] [] f fd) (R : Fr K mg) (g_is_name : FnG P w K mg base W "is_name" 2 (aspT xc f_is_name)) {c T : Addr} (TB : GxR.TabB base mg c T) (hPT : T ∈ W.T) (hcode : fd.code = .ref c) : FnOk P w K mg base (CX P w) 7 f fd ["thing"] (spOf { W with K := K } (aspT xc f_is_ranking)) := by
  obtain ⟨len_, isinstance_, int_, bool_, list_, range_, sorted_, set_, all_, max_, min_, tuple_, sum_, zip_, ValueError_, c_MOST_NAMES, c_MOST_HANDS⟩ := R
  refine fd_T (N := ["thing", "name"]) (a := 1) (m := 1) (s := t_is_ranking) F ⟨rfl, rfl, rfl, by decide +kernel, rfl, by decide +kernel, by decide +kernel⟩ rfl rfl fun cd A outer sh H E G RE B hcd => ?_
  have hcode : cd = .ref c := by rw [← hcd]; exact hcode
  subst hcode
  exact sd_is_ranking (cd := c) (P := T) rfl rfl B.nd B.calm B.own B.room B.tk (fun _ => rfl) rfl all_ isinstance_ len_ list_ set_ c_MOST_NAMES g_is_name TB hPT rfl
theorem ok_have_same_names (F : FunD K "have_same_names" "have_same_names" (defArgs shave_same_names) (defBody shave_same_names) (defScope shave_same_names) [] [] f fd) (R : Fr K mg)   : FnOk P w K mg base (CX P w) 1 f fd ["one", "other"] (spOf { W with K := K } (aspT xc f_have_same_names)) := by
  obtain ⟨len_, isinstance_, int_, bool_, list_, range_, sorted_, set_, all_, max_, min_, tuple_, sum_, zip_, ValueError_, c_MOST_NAMES, c_MOST_HANDS⟩ := R
  refine fd_T (N := ["one", "other"]) (a := 2) (m := 0) (s := t_have_same_names) F ⟨rfl, rfl, rfl, by decide +kernel, rfl, by decide +kernel, by decide +kernel⟩ rfl rfl fun cd A outer sh H E G RE B hcd => ?_
  exact sd_have_same_names rfl rfl B.nd B.calm B.own B.room B.tk (fun _ => rfl) rfl sorted_
theorem ok_is_folk (F : FunD K "is_folk" "is_folk" (defArgs sis_folk) (defBody sis_folk) (defScope sis_folk) [] [] f fd) (R : Fr K mg) (g_is_ranking : FnG P w K mg base W "is_ranking" 7 (aspT xc f_is_ranking)) (g_have_same_names : FnG P w K mg base W "have_same_names" 1 (aspT xc f_have_same_names)) {c T : Addr} (TB : GxR.TabB base mg c T) (hPT : T ∈ W.T) (hcode : fd.code = .ref c) : FnOk P w K mg base (CX P w) 12 f fd ["thing"] (spOf { W with K := K } (aspT xc f_is_folk)) := by
  obtain ⟨len_, isinstance_, int_, bool_, list_, range_, sorted_, set_, all_, max_, min_, tuple_, sum_, zip_, ValueError_, c_MOST_NAMES, c_MOST_HANDS⟩ := R
  refine fd_T (N := ["thing", "ranking"]) (a := 1) (m := 1) (s := t_is_folk) F ⟨rfl, rfl, rfl, by decide +kernel, rfl, by decide +kernel, by decide +kernel⟩ rfl rfl fun cd A outer sh H E G RE B hcd => ?_
  have hcode : cd = .ref c := by rw [← hcd]; exact hcode
  subst hcode
  exact sd_is_folk (cd := c) (P := T) rfl rfl B.nd B.calm B.own B.room B.tk (fun _ => rfl) rfl all_ isinstance_ len_ list_ c_MOST_HANDS g_is_ranking g_have_same_names TB hPT rfl
theorem ok_are_names_of (F : FunD K "are_names_of" "are_names_of" (defArgs sare_names_of) (defBody sare_names_of) (defScope sare_names_of) [] [] f fd) (R : Fr K mg) (g_is_whole : FnG P w K mg base W "is_whole" 1 (aspT xc f_is_whole)) {c T : Addr} (TB : GxR.TabB base mg c T) (hPT : T ∈ W.T) (hcode : fd.code = .ref c) : FnOk P w K mg base (CX P w) 6 f fd ["ranking", "some"] (spOf { W with K := K } (aspT xc f_are_names_of)) := by
  obtain ⟨len_, isinstance_, int_, bool_, list_, range_, sorted_, set_, all_, max_, min_, tuple_, sum_, zip_, ValueError_, c_MOST_NAMES, c_MOST_HANDS⟩ := R
  refine fd_T (N := ["ranking", "some", "name"]) (a := 2) (m := 1) (s := t_are_names_of) F ⟨rfl, rfl, rfl, by decide +kernel, rfl, by decide +kernel, by decide +kernel⟩ rfl rfl fun cd A outer sh H E G RE B hcd => ?_
  have hcode : cd = .ref c := by rw [← hcd]; exact hcode
  subst hcode
  exact sd_are_names_of (cd := c) (P := T) rfl rfl B.nd B.calm B.own B.room B.tk (fun _ => rfl) rfl all_ g_is_whole TB hPT rfl
theorem ok_are_two_names (F : FunD K "are_two_names" "are_two_names" (defArgs sare_two_names) (defBody sare_two_names) (defScope sare_two_names) [] [] f fd) (R : Fr K mg) (g_are_names_of : FnG P w K mg base W "are_names_of" 6 (aspT xc f_are_names_of))  : FnOk P w K mg base (CX P w) 7 f fd ["ranking", "one", "other"] (spOf { W with K := K } (aspT xc f_are_two_names)) := by
  obtain ⟨len_, isinstance_, int_, bool_, list_, range_, sorted_, set_, all_, max_, min_, tuple_, sum_, zip_, ValueError_, c_MOST_NAMES, c_MOST_HANDS⟩ := R
  refine fd_T (N := ["ranking", "one", "other"]) (a := 3) (m := 0) (s := t_are_two_names) F ⟨rfl, rfl, rfl, by decide +kernel, rfl, by decide +kernel, by decide +kernel⟩ rfl rfl fun cd A outer sh H E G RE B hcd => ?_
  exact sd_are_two_names rfl rfl B.nd B.calm B.own B.room B.tk (fun _ => rfl) rfl ⟨_, _, g_are_names_of, B.room, by decide, rfl⟩
theorem ok_check_folk (F : FunD K "check_folk" "check_folk" (defArgs scheck_folk) (defBody scheck_folk) (defScope scheck_folk) [] [] f fd) (R : Fr K mg) (g_is_folk : FnG P w K mg base W "is_folk" 12 (aspT xc f_is_folk))  (XK : Xk K mg xc xl) : FnOk P w K mg base (CX P w) 13 f fd ["thing"] (spOf { W with K := K } (aspT xc f_check_folk)) := by
  obtain ⟨len_, isinstance_, int_, bool_, list_, range_, sorted_, set_, all_, max_, min_, tuple_, sum_, zip_, ValueError_, c_MOST_NAMES, c_MOST_HANDS⟩ := R
  refine fd_T (N := ["thing"]) (a := 1) (m := 0) (s := t_check_folk) F ⟨rfl, rfl, rfl, by decide +kernel, rfl, by decide +kernel, by decide +kernel⟩ rfl rfl fun cd A outer sh H E G RE B hcd => ?_
  exact sd_check_folk rfl rfl B.nd B.calm B.own B.room B.tk (fun _ => rfl) rfl ⟨_, _, g_is_folk, B.room, by decide, rfl⟩ XK
theorem ok_is_ahead (F : FunD K "is_ahead" "is_ahead" (defArgs sis_ahead) (defBody sis_ahead) (defScope sis_ahead) [] [] f fd) (R : Fr K mg)   : FnOk P w K mg base (CX P w) 1 f fd ["ranking", "one", "other"] (spOf { W with K := K } (aspT xc f_is_ahead)) := by
  obtain ⟨len_, isinstance_, int_, bool_, list_, range_, sorted_, set_, all_, max_, min_, tuple_, sum_, zip_, ValueError_, c_MOST_NAMES, c_MOST_HANDS⟩ := R
  refine fd_T (N := ["ranking", "one", "other"]) (a := 3) (m := 0) (s := t_is_ahead) F ⟨rfl, rfl, rfl, by decide +kernel, rfl, by decide +kernel, by decide +kernel⟩ rfl rfl fun cd A outer sh H E G RE B hcd => ?_
  exact sd_is_ahead rfl rfl B.nd B.calm B.own B.room B.tk (fun _ => rfl) rfl
theorem ok_are_weights (F : FunD K "are_weights" "are_weights" (defArgs sare_weights) (defBody sare_weights) (defScope sare_weights) [] [] f fd) (R : Fr K mg) (g_is_whole : FnG P w K mg base W "is_whole" 1 (aspT xc f_is_whole)) {c T : Addr} (TB : GxR.TabB base mg c T) (hPT : T ∈ W.T) (hcode : fd.code = .ref c) : FnOk P w K mg base (CX P w) 6 f fd ["thing", "many"] (spOf { W with K := K } (aspT xc f_are_weights)) := by
  obtain ⟨len_, isinstance_, int_, bool_, list_, range_, sorted_, set_, all_, max_, min_, tuple_, sum_, zip_, ValueError_, c_MOST_NAMES, c_MOST_HANDS⟩ := R
  refine fd_T (N := ["thing", "many", "weight"]) (a := 2) (m := 1) (s := t_are_weights) F ⟨rfl, rfl, rfl, by decide +kernel, rfl, by decide +kernel, by decide +kernel⟩ rfl rfl fun cd A outer sh H E G RE B hcd => ?_
  have hcode : cd = .ref c := by rw [← hcd]; exact hcode
  subst hcode
  exact sd_are_weights (cd := c) (P := T) rfl rfl B.nd B.calm B.own B.room B.tk (fun _ => rfl) rfl all_ isinstance_ len_ list_ g_is_whole TB hPT rfl
theorem ok_check_weights (F : FunD K "check_weights" "check_weights" (defArgs scheck_weights) (defBody scheck_weights) (defScope scheck_weights) [] [] f fd) (R : Fr K mg) (g_check_folk : FnG P w K mg base W "check_folk" 13 (aspT xc f_check_folk)) (g_are_weights : FnG P w K mg base W "are_weights" 6 (aspT xc f_are_weights))  (XK : Xk K mg xc xl) : FnOk P w K mg base (CX P w) 14 f fd ["folk", "weights"] (spOf { W with K := K } (aspT xc f_check_weights)) := by
  obtain ⟨len_, isinstance_, int_, bool_, list_, range_, sorted_, set_, all_, max_, min_, tuple_, sum_, zip_, ValueError_, c_MOST_NAMES, c_MOST_HANDS⟩ := R
  refine fd_T (N := ["folk", "weights"]) (a := 2) (m := 0) (s := t_check_weights) F ⟨rfl, rfl, rfl, by decide +kernel, rfl, by decide +kernel, by decide +kernel⟩ rfl rfl fun cd A outer sh H E G RE B hcd => ?_
  exact sd_check_weights rfl rfl B.nd B.calm B.own B.room B.tk (fun _ => rfl) rfl len_ ⟨_, _, g_check_folk, B.room, by decide, rfl⟩ ⟨_, _, g_are_weights, B.room, by decide, rfl⟩ XK
theorem ok_count_margin (F : FunD K "count_margin" "count_margin" (defArgs scount_margin) (defBody scount_margin) (defScope scount_margin) [] [] f fd) (R : Fr K mg) (g_is_ahead : FnG P w K mg base W "is_ahead" 1 (aspT xc f_is_ahead)) {c T : Addr} (TB : GxR.TabB base mg c T) (hPT : T ∈ W.T) (hcode : fd.code = .ref c) : FnOk P w K mg base (CX P w) 6 f fd ["folk", "weights", "one", "other"] (spOf { W with K := K } (aspT xc f_count_margin)) := by
  obtain ⟨len_, isinstance_, int_, bool_, list_, range_, sorted_, set_, all_, max_, min_, tuple_, sum_, zip_, ValueError_, c_MOST_NAMES, c_MOST_HANDS⟩ := R
  refine fd_T (N := ["folk", "weights", "one", "other", "ranking", "weight"]) (a := 4) (m := 2) (s := t_count_margin) F ⟨rfl, rfl, rfl, by decide +kernel, rfl, by decide +kernel, by decide +kernel⟩ rfl rfl fun cd A outer sh H E G RE B hcd => ?_
  have hcode : cd = .ref c := by rw [← hcd]; exact hcode
  subst hcode
  exact sd_count_margin (cd := c) (P := T) rfl rfl B.nd B.calm B.own B.room B.tk (fun _ => rfl) rfl sum_ zip_ g_is_ahead TB hPT rfl
theorem ok_margin (F : FunD K "margin" "margin" (defArgs smargin) (defBody smargin) (defScope smargin) [] [] f fd) (R : Fr K mg) (g_check_weights : FnG P w K mg base W "check_weights" 14 (aspT xc f_check_weights)) (g_are_two_names : FnG P w K mg base W "are_two_names" 7 (aspT xc f_are_two_names)) (g_count_margin : FnG P w K mg base W "count_margin" 6 (aspT xc f_count_margin))  (XK : Xk K mg xc xl) : FnOk P w K mg base (CX P w) 15 f fd ["folk", "weights", "one", "other"] (spOf { W with K := K } (aspT xc f_margin)) := by
  obtain ⟨len_, isinstance_, int_, bool_, list_, range_, sorted_, set_, all_, max_, min_, tuple_, sum_, zip_, ValueError_, c_MOST_NAMES, c_MOST_HANDS⟩ := R
  refine fd_T (N := ["folk", "weights", "one", "other"]) (a := 4) (m := 0) (s := t_margin) F ⟨rfl, rfl, rfl, by decide +kernel, rfl, by decide +kernel, by decide +kernel⟩ rfl rfl fun cd A outer sh H E G RE B hcd => ?_
  exact sd_margin rfl rfl B.nd B.calm B.own B.room B.tk (fun _ => rfl) rfl ⟨_, _, g_check_weights, B.room, by decide, rfl⟩ ⟨_, _, g_are_two_names, B.room, by decide, rfl⟩ ⟨_, _, g_count_margin, B.room, by decide, rfl⟩ XK
theorem ok__law_whole (F : FunD K "_law_whole" "_law_whole" (defArgs s_law_whole) (defBody s_law_whole) (defScope s_law_whole) [] [] f fd) (R : Fr K mg)   : FnOk P w K mg base (CX P w) 1 f fd ["_law_found"] (spOf { W with K := K } (aspT xc f__law_whole)) := by
  obtain ⟨len_, isinstance_, int_, bool_, list_, range_, sorted_, set_, all_, max_, min_, tuple_, sum_, zip_, ValueError_, c_MOST_NAMES, c_MOST_HANDS⟩ := R
  refine fd_T (N := ["_law_found"]) (a := 1) (m := 0) (s := t__law_whole) F ⟨rfl, rfl, rfl, by decide +kernel, rfl, by decide +kernel, by decide +kernel⟩ rfl rfl fun cd A outer sh H E G RE B hcd => ?_
  exact sd__law_whole rfl rfl B.nd B.calm B.own B.room B.tk (fun _ => rfl) rfl bool_ int_ isinstance_
theorem ok__law_draws (F : FunD K "_law_draws" "_law_draws" (defArgs s_law_draws) (defBody s_law_draws) (defScope s_law_draws) [] [] f fd) (R : Fr K mg)   : FnOk P w K mg base (CX P w) 1 f fd ["_law_script", "_law_j", "_law_many"] (spOf { W with K := K } (aspT xc f__law_draws)) := by
  obtain ⟨len_, isinstance_, int_, bool_, list_, range_, sorted_, set_, all_, max_, min_, tuple_, sum_, zip_, ValueError_, c_MOST_NAMES, c_MOST_HANDS⟩ := R
  refine fd_T (N := ["_law_script", "_law_j", "_law_many", "_law_cell", "_law_great", "_law_number", "_law_found", "_law_k", "_law_mixed"]) (a := 3) (m := 6) (s := t__law_draws) F ⟨rfl, rfl, rfl, by decide +kernel, rfl, by decide +kernel, by decide +kernel⟩ rfl rfl fun cd A outer sh H E G RE B hcd => ?_
  exact sd__law_draws rfl rfl B.nd B.calm B.own B.room B.tk (fun _ => rfl) rfl len_ min_ range_
theorem ok__law_names (F : FunD K "_law_names" "_law_names" (defArgs s_law_names) (defBody s_law_names) (defScope s_law_names) [] [] f fd) (R : Fr K mg)   : FnOk P w K mg base (CX P w) 1 f fd ["_law_digits"] (spOf { W with K := K } (aspT xc f__law_names)) := by
  obtain ⟨len_, isinstance_, int_, bool_, list_, range_, sorted_, set_, all_, max_, min_, tuple_, sum_, zip_, ValueError_, c_MOST_NAMES, c_MOST_HANDS⟩ := R
  refine fd_T (N := ["_law_digits", "_law_found", "_law_last", "_law_digit"]) (a := 1) (m := 3) (s := t__law_names) F ⟨rfl, rfl, rfl, by decide +kernel, rfl, by decide +kernel, by decide +kernel⟩ rfl rfl fun cd A outer sh H E G RE B hcd => ?_
  exact sd__law_names rfl rfl B.nd B.calm B.own B.room B.tk (fun _ => rfl) rfl
theorem ok__law_shuffled (F : FunD K "_law_shuffled" "_law_shuffled" (defArgs s_law_shuffled) (defBody s_law_shuffled) (defScope s_law_shuffled) [] [] f fd) (R : Fr K mg)   : FnOk P w K mg base (CX P w) 1 f fd ["_law_names_here", "_law_digits"] (spOf { W with K := K } (aspT xc f__law_shuffled)) := by
  obtain ⟨len_, isinstance_, int_, bool_, list_, range_, sorted_, set_, all_, max_, min_, tuple_, sum_, zip_, ValueError_, c_MOST_NAMES, c_MOST_HANDS⟩ := R
  refine fd_T (N := ["_law_names_here", "_law_digits", "_law_found", "_law_name", "_law_digit"]) (a := 2) (m := 3) (s := t__law_shuffled) F ⟨rfl, rfl, rfl, by decide +kernel, rfl, by decide +kernel, by decide +kernel⟩ rfl rfl fun cd A outer sh H E G RE B hcd => ?_
  exact sd__law_shuffled rfl rfl B.nd B.calm B.own B.room B.tk (fun _ => rfl) rfl len_ zip_
theorem ok__law_fallen (F : FunD K "_law_fallen" "_law_fallen" (defArgs s_law_fallen) (defBody s_law_fallen) (defScope s_law_fallen) [] [] f fd) (R : Fr K mg)   : FnOk P w K mg base (CX P w) 1 f fd ["_law_line_here", "_law_digits"] (spOf { W with K := K } (aspT xc f__law_fallen)) := by
  obtain ⟨len_, isinstance_, int_, bool_, list_, range_, sorted_, set_, all_, max_, min_, tuple_, sum_, zip_, ValueError_, c_MOST_NAMES, c_MOST_HANDS⟩ := R
  refine fd_T (N := ["_law_line_here", "_law_digits", "_law_left", "_law_found", "_law_digit"]) (a := 2) (m := 3) (s := t__law_fallen) F ⟨rfl, rfl, rfl, by decide +kernel, rfl, by decide +kernel, by decide +kernel⟩ rfl rfl fun cd A outer sh H E G RE B hcd => ?_
  exact sd__law_fallen rfl rfl B.nd B.calm B.own B.room B.tk (fun _ => rfl) rfl len_ list_
theorem ok__law_line (F : FunD K "_law_line" "_law_line" (defArgs s_law_line) (defBody s_law_line) (defScope s_law_line) [] [] f fd) (R : Fr K mg) (g__law_draws : FnG P w K mg base W "_law_draws" 1 (aspT xc f__law_draws)) (g__law_shuffled : FnG P w K mg base W "_law_shuffled" 1 (aspT xc f__law_shuffled)) (g__law_names : FnG P w K mg base W "_law_names" 1 (aspT xc f__law_names))  : FnOk P w K mg base (CX P w) 2 f fd ["_law_script", "_law_j", "_law_many"] (spOf { W with K := K } (aspT xc f__law_line)) := by
  obtain ⟨len_, isinstance_, int_, bool_, list_, range_, sorted_, set_, all_, max_, min_, tuple_, sum_, zip_, ValueError_, c_MOST_NAMES, c_MOST_HANDS⟩ := R
  refine fd_T (N := ["_law_script", "_law_j", "_law_many", "_law_draws_here"]) (a := 3) (m := 1) (s := t__law_line) F ⟨rfl, rfl, rfl, by decide +kernel, rfl, by decide +kernel, by decide +kernel⟩ rfl rfl fun cd A outer sh H E G RE B hcd => ?_
  exact sd__law_line rfl rfl B.nd B.calm B.own B.room B.tk (fun _ => rfl) rfl ⟨_, _, g__law_draws, B.room, by decide, rfl⟩ ⟨_, _, g__law_shuffled, B.room, by decide, rfl⟩ ⟨_, _, g__law_names, B.room, by decide, rfl⟩
theorem ok__law_folk (F : FunD K "_law_folk" "_law_folk" (defArgs s_law_folk) (defBody s_law_folk) (defScope s_law_folk) [] [] f fd) (R : Fr K mg) (g__law_draws : FnG P w K mg base W "_law_draws" 1 (aspT xc f__law_draws)) (g__law_shuffled : FnG P w K mg base W "_law_shuffled" 1 (aspT xc f__law_shuffled)) (g__law_fallen : FnG P w K mg base W "_law_fallen" 1 (aspT xc f__law_fallen))  : FnOk P w K mg base (CX P w) 2 f fd ["_law_script", "_law_j", "_law_line_here", "_law_hands", "_law_free"] (spOf { W with K := K } (aspT xc f__law_folk)) := by
  obtain ⟨len_, isinstance_, int_, bool_, list_, range_, sorted_, set_, all_, max_, min_, tuple_, sum_, zip_, ValueError_, c_MOST_NAMES, c_MOST_HANDS⟩ := R
  refine fd_T (N := ["_law_script", "_law_j", "_law_line_here", "_law_hands", "_law_free", "_law_found", "_law_hand", "_law_draws_here"]) (a := 5) (m := 3) (s := t__law_folk) F ⟨rfl, rfl, rfl, by decide +kernel, rfl, by decide +kernel, by decide +kernel⟩ rfl rfl fun cd A outer sh H E G RE B hcd => ?_
  exact sd__law_folk rfl rfl B.nd B.calm B.own B.room B.tk (fun _ => rfl) rfl len_ range_ ⟨_, _, g__law_draws, B.room, by decide, rfl⟩ ⟨_, _, g__law_shuffled, B.room, by decide, rfl⟩ ⟨_, _, g__law_fallen, B.room, by decide, rfl⟩
theorem ok__law_weights (F : FunD K "_law_weights" "_law_weights" (defArgs s_law_weights) (defBody s_law_weights) (defScope s_law_weights) [] [] f fd) (R : Fr K mg) (g__law_draws : FnG P w K mg base W "_law_draws" 1 (aspT xc f__law_draws))  : FnOk P w K mg base (CX P w) 2 f fd ["_law_script", "_law_j", "_law_hands"] (spOf { W with K := K } (aspT xc f__law_weights)) := by
  obtain ⟨len_, isinstance_, int_, bool_, list_, range_, sorted_, set_, all_, max_, min_, tuple_, sum_, zip_, ValueError_, c_MOST_NAMES, c_MOST_HANDS⟩ := R
  refine fd_T (N := ["_law_script", "_law_j", "_law_hands", "_law_digits", "_law_digit"]) (a := 3) (m := 2) (s := t__law_weights) F ⟨rfl, rfl, rfl, by decide +kernel, rfl, by decide +kernel, by decide +kernel⟩ rfl rfl fun cd A outer sh H E G RE B hcd => ?_
  exact sd__law_weights rfl rfl B.nd B.calm B.own B.room B.tk (fun _ => rfl) rfl ⟨_, _, g__law_draws, B.room, by decide, rfl⟩
theorem ok__law_lead (F : FunD K "_law_lead" "_law_lead" (defArgs s_law_lead) (defBody s_law_lead) (defScope s_law_lead) [] [] f fd) (R : Fr K mg)   : FnOk P w K mg base (CX P w) 1 f fd ["_law_folk_here", "_law_weights_here", "_law_one", "_law_other"] (spOf { W with K := K } (aspT xc f__law_lead)) := by
  obtain ⟨len_, isinstance_, int_, bool_, list_, range_, sorted_, set_, all_, max_, min_, tuple_, sum_, zip_, ValueError_, c_MOST_NAMES, c_MOST_HANDS⟩ := R
  refine fd_T (N := ["_law_folk_here", "_law_weights_here", "_law_one", "_law_other", "_law_found", "_law_ranking", "_law_weight"]) (a := 4) (m := 3) (s := t__law_lead) F ⟨rfl, rfl, rfl, by decide +kernel, rfl, by decide +kernel, by decide +kernel⟩ rfl rfl fun cd A outer sh H E G RE B hcd => ?_
  exact sd__law_lead rfl rfl B.nd B.calm B.own B.room B.tk (fun _ => rfl) rfl int_ zip_
theorem ok__law_copied (F : FunD K "_law_copied" "_law_copied" (defArgs s_law_copied) (defBody s_law_copied) (defScope s_law_copied) [] [] f fd) (R : Fr K mg)   (hm : mg "_law_copied" = some (.ref f)) (hk : PySem.W.keepIn K (.ref f) = true) (hb : Binds K fd ["_law_thing"] []) : ∀ m : Nat, FnOk P w K mg base (CX P w) (m + 1) f fd ["_law_thing"] (spOf { W with K := K } (aspT xc (r__law_copied m))) := by
  obtain ⟨len_, isinstance_, int_, bool_, list_, range_, sorted_, set_, all_, max_, min_, tuple_, sum_, zip_, ValueError_, c_MOST_NAMES, c_MOST_HANDS⟩ := R
  intro m
  induction m with
  | zero => exact fd_asp (N := ["_law_thing", "_law_part"]) F ⟨rfl, rfl, rfl, by decide +kernel, rfl, by decide +kernel, by decide +kernel⟩ (fun xs n R RE h => h.elim) fun cd A outer sh H E G xs n R RE h B hcd => h.elim
  | succ m ih =>
    refine fd_T (N := ["_law_thing", "_law_part"]) (a := 1) (m := 1) (s := t__law_copied (r__law_copied m)) F ⟨rfl, rfl, rfl, by decide +kernel, rfl, by decide +kernel, by decide +kernel⟩ rfl rfl fun cd A outer sh H E G RE B hcd => ?_
    exact sd__law_copied (me := r__law_copied m) rfl rfl B.nd B.calm B.own (B.room.mono (by omega)) B.tk (fun _ => rfl) rfl isinstance_ list_ tuple_ ⟨_, _, ⟨_, _, _, ih, hm, hk, hb⟩, B.room, Nat.le_refl _, rfl⟩
theorem ok__law_names_of (F : FunD K "_law_names_of" "_law_names_of" (defArgs s_law_names_of) (defBody s_law_names_of) (defScope s_law_names_of) [] [] f fd) (R : Fr K mg)   (XK : Xk K mg xc xl) : FnOk P w K mg base (CX P w) 1 f fd ["_law_e"] (spOf { W with K := K } (aspT xc (f__law_names_of xc))) := by
  obtain ⟨len_, isinstance_, int_, bool_, list_, range_, sorted_, set_, all_, max_, min_, tuple_, sum_, zip_, ValueError_, c_MOST_NAMES, c_MOST_HANDS⟩ := R
  refine fd_T (N := ["_law_e", "_law_hits", "_law_words", "_law_word", "_law_hit"]) (a := 1) (m := 4) (s := (t__law_names_of xc)) F ⟨rfl, rfl, rfl, by decide +kernel, rfl, by decide +kernel, by decide +kernel⟩ rfl rfl fun cd A outer sh H E G RE B hcd => ?_
  exact sd__law_names_of rfl rfl B.nd B.calm B.own B.room B.tk (fun _ => rfl) rfl isinstance_ zip_ XK
theorem ok__law_refused (F : FunD K "_law_refused" "_law_refused" (defArgs s_law_refused) (defBody s_law_refused) (defScope s_law_refused) [] [] f fd) (R : Fr K mg) (g_margin : FnG P w K mg base W "margin" 15 (aspT xc f_margin)) (g__law_names_of : FnG P w K mg base W "_law_names_of" 1 (aspT xc (f__law_names_of xc)))  (XK : Xk K mg xc xl) : FnOk P w K mg base (CX P w) 16 f fd ["_law_folk_here", "_law_weights_here", "_law_one", "_law_other"] (spOf { W with K := K } (aspT xc (f__law_refused xc))) := by
  obtain ⟨len_, isinstance_, int_, bool_, list_, range_, sorted_, set_, all_, max_, min_, tuple_, sum_, zip_, ValueError_, c_MOST_NAMES, c_MOST_HANDS⟩ := R
  refine fd_T (N := ["_law_folk_here", "_law_weights_here", "_law_one", "_law_other", "_law_caught", "_law_e"]) (a := 4) (m := 2) (s := (t__law_refused xc)) F ⟨rfl, rfl, rfl, by decide +kernel, rfl, by decide +kernel, by decide +kernel⟩ rfl rfl fun cd A outer sh H E G RE B hcd => ?_
  exact sd__law_refused rfl rfl B.nd B.calm B.own B.room B.tk (fun _ => rfl) rfl ValueError_ isinstance_ ⟨_, _, g_margin, B.room, by decide, rfl⟩ ⟨_, _, g__law_names_of, B.room, by decide, rfl⟩ XK ⟨rfl, rfl, rfl, rfl⟩
theorem ok_law (F : FunD K "law" "law" (defArgs slaw) (defBody slaw) (defScope slaw) [] [] f fd) (R : Fr K mg) (g__law_draws : FnG P w K mg base W "_law_draws" 1 (aspT xc f__law_draws)) (g__law_line : FnG P w K mg base W "_law_line" 2 (aspT xc f__law_line)) (g__law_folk : FnG P w K mg base W "_law_folk" 2 (aspT xc f__law_folk)) (g__law_weights : FnG P w K mg base W "_law_weights" 2 (aspT xc f__law_weights)) (g__law_copied : FnG P w K mg base W "_law_copied" 6 (aspT xc f__law_copied)) (g_margin : FnG P w K mg base W "margin" 15 (aspT xc f_margin)) (g__law_whole : FnG P w K mg base W "_law_whole" 1 (aspT xc f__law_whole)) (g__law_lead : FnG P w K mg base W "_law_lead" 1 (aspT xc f__law_lead)) (g__law_refused : FnG P w K mg base W "_law_refused" 16 (aspT xc (f__law_refused xc)))  : FnOk P w K mg base (CX P w) 17 f fd ["_law_script"] (spOf { W with K := K } (aspT xc (f_law xc))) := by
  obtain ⟨len_, isinstance_, int_, bool_, list_, range_, sorted_, set_, all_, max_, min_, tuple_, sum_, zip_, ValueError_, c_MOST_NAMES, c_MOST_HANDS⟩ := R
  refine fd_T (N := ["_law_script", "_law_draws_here", "_law_line_here", "_law_hands", "_law_folk_here", "_law_weights_here", "_law_handed", "_law_one", "_law_other", "_law_found", "_law_gaps", "_law_name"]) (a := 1) (m := 11) (s := (t_law xc)) F ⟨rfl, rfl, rfl, by decide +kernel, rfl, by decide +kernel, by decide +kernel⟩ rfl rfl fun cd A outer sh H E G RE B hcd => ?_
  exact sd_law rfl rfl B.nd B.calm B.own B.room B.tk (fun _ => rfl) rfl int_ len_ max_ ⟨_, _, g__law_draws, B.room, by decide, rfl⟩ ⟨_, _, g__law_line, B.room, by decide, rfl⟩ ⟨_, _, g__law_folk, B.room, by decide, rfl⟩ ⟨_, _, g__law_weights, B.room, by decide, rfl⟩ ⟨_, _, g__law_copied, B.room, by decide, rfl⟩ ⟨_, _, g_margin, B.room, by decide, rfl⟩ ⟨_, _, g__law_whole, B.room, by decide, rfl⟩ ⟨_, _, g__law_lead, B.room, by decide, rfl⟩ ⟨_, _, g__law_refused, B.room, by decide, rfl⟩
end

end KX

set_option Elab.async false
set_option linter.all false
set_option maxRecDepth 100000
set_option maxHeartbeats 4000000
namespace M
open PySem PySem.Spec PyProof.Rows L2
/-! ### the readings, applied -/
theorem eVar_a (i : Nat) (τ : List Sl) : M.eVar i τ = match τ[i]? with
  | some (.st x) => vl x
  | _ => none := rfl
theorem eC_a (x : Av) (τ : List Sl) : M.eC x τ = vl x := rfl
theorem e1_a (p : Av → Option Av) (t : Ev) (τ : List Sl) : M.e1 p t τ = bnd (t τ) fun x => lif (p x) := rfl
theorem e2_a (p : Av → Av → Option Av) (t u : Ev) (τ : List Sl) : M.e2 p t u τ = bnd (t τ) fun x => bnd (u τ) fun y => lif (p x y) := rfl
theorem b1_a (p : Av → Option Bool) (t : Ev) (τ : List Sl) : M.b1 p t τ = bnd (t τ) fun x => lif (p x) := rfl
theorem b2_a (p : Av → Av → Option Bool) (t u : Ev) (τ : List Sl) : M.b2 p t u τ = bnd (t τ) fun x => bnd (u τ) fun y => lif (p x y) := rfl
theorem eF_a (p : List Av → Option Av) (t : EvL) (τ : List Sl) : M.eF p t τ = bnd (t τ) fun x => lif (p x) := rfl
theorem eCall_a (f : List Av → Rs Av) (t : EvL) (τ : List Sl) : M.eCall f t τ = bnd (t τ) f := rfl
theorem aNil_a  (τ : List Sl) : M.aNil  τ = vl [] := rfl
theorem aCons_a (t : Ev) (u : EvL) (τ : List Sl) : M.aCons t u τ = bnd (t τ) fun x => bnd (u τ) fun xs => vl (x :: xs) := rfl
theorem tNot_a (t : EvB) (τ : List Sl) : M.tNot t τ = bnd (t τ) fun b => vl (!b) := rfl
theorem tAnd_a (t u : EvB) (τ : List Sl) : M.tAnd t u τ = bnd (t τ) fun b => if b = true then u τ else vl false := rfl
theorem tOr_a (t u : EvB) (τ : List Sl) : M.tOr t u τ = bnd (t τ) fun b => if b = true then vl true else u τ := rfl
theorem vAnd_a (t u : Ev) (τ : List Sl) : M.vAnd t u τ = bnd (t τ) fun x => bnd (lif (asB x)) fun b => if b = true then u τ else vl (aB false) := rfl
theorem vOr_a (t u : Ev) (τ : List Sl) : M.vOr t u τ = bnd (t τ) fun x => bnd (lif (asB x)) fun b => if b = true then vl (aB true) else u τ := rfl
theorem eIf_a (c : EvB) (t u : Ev) (τ : List Sl) : M.eIf c t u τ = bnd (c τ) fun b => if b = true then t τ else u τ := rfl
theorem eIndex_a (t u : Ev) (τ : List Sl) : M.eIndex t u τ = bnd (t τ) fun x => bnd (lif (asIs x)) fun ns => bnd (u τ) fun y => bnd (lif (asI y)) fun i => if i ∈ ns then vl (aI (ns.idxOf i : Nat)) else none := rfl
theorem oN_a  (τ : List Sl) : M.oN  τ = vl none := rfl
theorem oS_a (t : Ev) (τ : List Sl) : M.oS t τ = bnd (t τ) fun x => bnd (lif (asI x)) fun i => vl (some i) := rfl
theorem eSl_a (t : Ev) (lo hi : List Sl → Rs (Option Int)) (τ : List Sl) : M.eSl t lo hi τ = bnd (t τ) fun x => bnd (lo τ) fun l => bnd (hi τ) fun h => bnd (lif (asL x)) fun ds => vl (.d (.list (cutD ds l h))) := rfl
theorem eChLe_a (t u v : Ev) (τ : List Sl) : M.eChLe t u v τ = bnd (t τ) fun x => bnd (u τ) fun y => bnd (lif (asI x)) fun i => bnd (lif (asI y)) fun j => if i ≤ j then bnd (v τ) fun z => bnd (lif (asI z)) fun k => vl (aB (decide (j ≤ k))) else vl (aB false) := rfl
theorem bChLe_a (t u v : Ev) (τ : List Sl) : M.bChLe t u v τ = bnd (t τ) fun x => bnd (u τ) fun y => bnd (lif (asI x)) fun i => bnd (lif (asI y)) fun j => if i ≤ j then bnd (v τ) fun z => bnd (lif (asI z)) fun k => vl (decide (j ≤ k)) else vl false := rfl
theorem bChLeLt_a (t u v : Ev) (τ : List Sl) : M.bChLeLt t u v τ = bnd (t τ) fun x => bnd (u τ) fun y => bnd (lif (asI x)) fun i => bnd (lif (asI y)) fun j => if i ≤ j then bnd (v τ) fun z => bnd (lif (asI z)) fun k => vl (decide (j < k)) else vl false := rfl
theorem eBor_a (i : Nat) (t : Ev) (τ : List Sl) : M.eBor i t τ = match τ[i]? with
  | some (.ow ds) => if owB τ i = true then match okO (t (τ.set i (.st (.d (.list ds))))) with
    | some x => if scB x = true then vl x else none
    | none => none else none
  | _ => none := rfl
theorem bBor_a (i : Nat) (t : EvB) (τ : List Sl) : M.bBor i t τ = match τ[i]? with
  | some (.ow ds) => if owB τ i = true then lif (okO (t (τ.set i (.st (.d (.list ds)))))) else none
  | _ => none := rfl
theorem dBor_a (i : Nat) (t : EvD) (τ : List Sl) : M.dBor i t τ = match τ[i]? with
  | some (.ow ds) => if owB τ i = true then match okO (t (τ.set i (.st (.d (.list ds))))) with
    | some xs => if xs.all isInt = true then vl xs else none
    | none => none else none
  | _ => none := rfl
theorem eLenO_a (i : Nat) (τ : List Sl) : M.eLenO i τ = match τ[i]? with
  | some (.ow ds) => vl (aI ds.length)
  | _ => none := rfl
theorem eIxO_a (i : Nat) (t : Ev) (τ : List Sl) : M.eIxO i t τ = match τ[i]? with
  | some (.ow ds) => bnd (t τ) fun x => bnd (lif (asI x)) fun j => lif ((atI ds j).map .d)
  | _ => none := rfl
theorem dF_a (t : Ev) (τ : List Sl) : M.dF t τ = bnd (t τ) fun x => lif (asL x) := rfl
theorem iL_a (t : Ev) (τ : List Sl) : M.iL t τ = bnd (t τ) fun x => lif (asL x) := rfl
theorem iT_a (t : Ev) (τ : List Sl) : M.iT t τ = bnd (t τ) fun x => lif (asT x) := rfl
theorem iRg1_a (t : Ev) (τ : List Sl) : M.iRg1 t τ = bnd (t τ) fun x => bnd (lif (asI x)) fun j => if -(2 ^ 62) ≤ j ∧ j < 2 ^ 62 then vl (rangeD 0 j.toNat) else none := rfl
theorem iRg2_a (t u : Ev) (τ : List Sl) : M.iRg2 t u τ = bnd (t τ) fun x => bnd (u τ) fun y => bnd (lif (asI x)) fun i => bnd (lif (asI y)) fun j => if -(2 ^ 62) ≤ i ∧ i < 2 ^ 62 ∧ -(2 ^ 62) ≤ j ∧ j < 2 ^ 62 then vl (rangeD i (j - i).toNat) else none := rfl
theorem iEn_a (t : Ev) (τ : List Sl) : M.iEn t τ = bnd (t τ) fun x => bnd (lif (asL x)) fun ds => vl (ds.zipIdx.map fun p => PyData.tuple [.int (p.2 : Nat), p.1]) := rfl
theorem iZip_a (t u : Ev) (τ : List Sl) : M.iZip t u τ = bnd (t τ) fun x => bnd (u τ) fun y => bnd (lif (asL x)) fun ds => bnd (lif (asL y)) fun es => vl ((ds.zip es).map fun p => PyData.tuple [p.1, p.2]) := rfl
theorem iRev_a (t : Ev) (τ : List Sl) : M.iRev t τ = bnd (t τ) fun x => bnd (lif (asL x)) fun ds => vl ds.reverse := rfl
theorem tYes_a  (τ : List Sl) : M.tYes  τ = vl true := rfl
theorem dLc_a (g : TgE) (it : EvD) (c : EvB) (t : Ev) (τ : List Sl) : M.dLc g it c t τ = bnd (it τ) fun ds => if ds.length < sizeLine ∧ noOwB τ g.vs = true then lif (lcL (fun d => g.set d (wipeS τ g.vs)) g.ok c t ds) else none := rfl
theorem eLc_a (g : TgE) (it : EvD) (c : EvB) (t : Ev) (τ : List Sl) : M.eLc g it c t τ = bnd (dLc g it c t τ) fun ds => vl (.d (.list ds)) := rfl
theorem eDc_a (g : TgE) (it : EvD) (t u : Ev) (τ : List Sl) : M.eDc g it t u τ = bnd (it τ) fun ds => if ds.length < sizeLine ∧ noOwB τ g.vs = true then match dcL (fun d => g.set d (wipeS τ g.vs)) g.ok t u ds with
  | some kvs => if (kvs.map (·.1)).Nodup then vl (.dc kvs) else none
  | none => none else none := rfl
theorem sSeq_a (s u : EvS) (τ : List Sl) : M.sSeq s u τ = match s τ with
  | some (.nx, τ') => u τ'
  | o => o := rfl
theorem sNil_a  (τ : List Sl) : M.sNil  τ = some (.nx, τ) := rfl
theorem sAsg_a (i : Nat) (t : Ev) (τ : List Sl) : M.sAsg i t τ = sE (t τ) τ fun x => some (.nx, τ.set i (.st x)) := rfl
theorem sOwn_a (i : Nat) (t : EvD) (τ : List Sl) : M.sOwn i t τ = sE (t τ) τ fun ds => some (.nx, τ.set i (.ow ds)) := rfl
theorem sApp_a (i : Nat) (t : Ev) (τ : List Sl) : M.sApp i t τ = match τ[i]? with
  | some (.ow ds) => sE (t τ) τ fun x => match x with
    | .d d => if ds.length < sizeLine then some (.nx, τ.set i (.ow (ds ++ [d]))) else none
    | _ => none
  | _ => none := rfl
theorem sIns_a (i : Nat) (t u : Ev) (τ : List Sl) : M.sIns i t u τ = match τ[i]? with
  | some (.ow ds) => sE (t τ) τ fun x => sE (u τ) τ fun y => match x, y with
    | .d (.int j), .d d => if ds.length < sizeLine ∧ 0 ≤ j ∧ j < 2 ^ 63 then some (.nx, τ.set i (.ow (ds.take j.toNat ++ [d] ++ ds.drop j.toNat))) else none
    | _, _ => none
  | _ => none := rfl
theorem sSetO_a (i : Nat) (u t : Ev) (τ : List Sl) : M.sSetO i u t τ = match τ[i]? with
  | some (.ow ds) => sE (t τ) τ fun x => match x with
    | .d d => sE (u τ) τ fun y => match y with
      | .d (.int j) => match ixN ds.length j with
        | some m => some (.nx, τ.set i (.ow (ds.set m d)))
        | none => none
      | _ => none
    | _ => none
  | _ => none := rfl
theorem sAppPop_a (i l : Nat) (t : Ev) (τ : List Sl) : M.sAppPop i l t τ = match τ[i]?, τ[l]? with
  | some (.ow _), some (.ow es) => sE (t τ) τ fun x => match x with
    | .d (.int j) => if -(2 ^ 63) ≤ j ∧ j < 2 ^ 63 then match seqIndex? j es.length with
      | some k => match es[k]?, (τ.set l (.ow (es.eraseIdx k)))[i]? with
        | some d, some (.ow ds) => if ds.length < sizeLine then some (.nx, (τ.set l (.ow (es.eraseIdx k))).set i (.ow (ds ++ [d]))) else none
        | _, _ => none
      | none => none else none
    | _ => none
  | _, _ => none := rfl
theorem sIf_a (c : EvB) (s u : EvS) (τ : List Sl) : M.sIf c s u τ = sE (c τ) τ fun b => if b = true then s τ else u τ := rfl
theorem sFor_a (g : TgE) (it : EvD) (body : EvS) (τ : List Sl) : M.sFor g it body τ = sE (it τ) τ fun ds => forL g body ds τ := rfl
theorem sWhl_a (m : Nat) (c : EvB) (body : EvS) (τ : List Sl) : M.sWhl m c body τ = (whlL c body m) τ := rfl
theorem sRet_a (t : Ev) (τ : List Sl) : M.sRet t τ = sE (t τ) τ fun x => some (.rt x, τ) := rfl
theorem sRetN_a  (τ : List Sl) : M.sRetN  τ = some (.rt aN, τ) := rfl
theorem sRaise_a (z : Str) (τ : List Sl) : M.sRaise z τ = some (.ex z, τ) := rfl
theorem sExpr_a (t : Ev) (τ : List Sl) : M.sExpr t τ = sE (t τ) τ fun _ => some (.nx, τ) := rfl
theorem sFrz_a (i : Nat) (s : EvS) (τ : List Sl) : M.sFrz i s τ = match τ[i]? with
  | some (.ow ds) => s (τ.set i (.st (.d (.list ds))))
  | _ => none := rfl
theorem sAug_a (f : Int → Int → Int) (i : Nat) (t : Ev) (τ : List Sl) : M.sAug f i t τ = match τ[i]? with
  | some (.st (.d (.int j))) => sE (t τ) τ fun x => match x with
    | .d (.int m) => some (.nx, τ.set i (.st (aI (f j m))))
    | _ => none
  | _ => none := rfl
theorem sAsg2_a (i j : Nat) (t : Ev) (τ : List Sl) : M.sAsg2 i j t τ = sE (t τ) τ fun x => some (.nx, (τ.set i (.st x)).set j (.st x)) := rfl
theorem sPar2_a (i j : Nat) (t : EvL) (τ : List Sl) : M.sPar2 i j t τ = sE (t τ) τ fun xs => match xs with
  | [x, y] => some (.nx, (τ.set i (.st x)).set j (.st y))
  | _ => none := rfl
theorem sPar3_a (i j l : Nat) (t : EvL) (τ : List Sl) : M.sPar3 i j l t τ = sE (t τ) τ fun xs => match xs with
  | [x, y, z] => some (.nx, ((τ.set i (.st x)).set j (.st y)).set l (.st z))
  | _ => none := rfl
theorem sTry_a (xc : Str → Addr) (l : List Str) (i j : Nat) (s : EvS) (τ : List Sl) : M.sTry xc l i j s τ = if noOwS τ = true then match s τ with
  | some (.ex z, τ') => if z ∈ l then some (.nx, ((τ'.set i (.st (.ex (xc z) z))).set j (.st (.ex (xc z) z))).set i .no) else none
  | o => o else none := rfl
theorem sNo_a  (τ : List Sl) : M.sNo  τ = none := rfl
theorem eNo_a  (τ : List Sl) : M.eNo  τ = none := rfl
theorem sBk_a  (τ : List Sl) : M.sBk  τ = some (.bk, τ) := rfl
theorem sCt_a  (τ : List Sl) : M.sCt  τ = some (.ct, τ) := rfl
theorem g1_ok (i : Nat) (d : PyData) : (g1 i).ok d = true := rfl
theorem g1_set (i : Nat) (d : PyData) (τ : List Sl) : (g1 i).set d τ = τ.set i (.st (.d d)) := rfl
theorem g1_vs (i : Nat) : (g1 i).vs = [i] := rfl
theorem g2_vs (i j : Nat) : (g2 i j).vs = [i, j] := rfl
theorem g2_ok (i j : Nat) (d e : PyData) : (g2 i j).ok (.tuple [d, e]) = true := rfl
theorem g2_set (i j : Nat) (d e : PyData) (τ : List Sl) : (g2 i j).set (.tuple [d, e]) τ = (τ.set i (.st (.d d))).set j (.st (.d e)) := rfl
macro "tv" " [" ts:Lean.Parser.Tactic.simpLemma,* "]" : tactic => `(tactic| simp only [eVar_a, eC_a, e1_a, e2_a, b1_a, b2_a, eF_a, eCall_a, aNil_a, aCons_a, tNot_a, tAnd_a, tOr_a, vAnd_a, vOr_a, eIf_a, eIndex_a, oN_a, oS_a, eSl_a, eChLe_a, bChLe_a, bChLeLt_a, eBor_a, bBor_a, dBor_a, eLenO_a, eIxO_a, dF_a, iL_a, iT_a, iRg1_a, iRg2_a, iEn_a, iZip_a, iRev_a, tYes_a, sSeq_a, sNil_a, sAsg_a, sOwn_a, sApp_a, sIns_a, sSetO_a, sAppPop_a, sIf_a, sRet_a, sRetN_a, sRaise_a, sExpr_a, sFrz_a, sAug_a, sAsg2_a, sPar2_a, sPar3_a, sTry_a, sNo_a, eNo_a, sBk_a, sCt_a, g1_ok, g1_set, g1_vs, g2_vs, g2_ok, g2_set, runF, sE, bnd, lif, List.map_cons, List.map_nil, List.length_cons, List.length_nil, List.replicate, List.cons_append, List.nil_append, List.set_cons_zero, List.set_cons_succ, List.getElem?_cons_zero, List.getElem?_cons_succ, Nat.reduceAdd, Nat.reduceEqDiff, Nat.reduceSub, if_true, if_false, ite_true, ite_false, Bool.false_eq_true, reduceIte, Option.map_some, Option.bind_some, Bool.not_true, Bool.not_false, $ts,*])
end M

set_option Elab.async false
set_option linter.all false
set_option maxRecDepth 100000
set_option maxHeartbeats 1000000
namespace M
open PySem PySem.Spec PyProof.Rows L2
/-! ### evaluating the readings; loops; all(..), sum(..) -/
theorem isi_ii (i : Int) : pIsi "int" (aI i) = some (aB true) := rfl
theorem isi_bi (i : Int) : pIsi "bool" (aI i) = some (aB false) := rfl
theorem isi_ll (ds : List PyData) : pIsi "list" (.d (.list ds)) = some (aB true) := rfl
theorem isi_tt (ds : List PyData) : pIsi "tuple" (.d (.tuple ds)) = some (aB true) := rfl
theorem isi_tl (ds : List PyData) : pIsi "tuple" (.d (.list ds)) = some (aB false) := rfl
theorem isi_ti (i : Int) : pIsi "tuple" (aI i) = some (aB false) := rfl
theorem isi_li (i : Int) : pIsi "list" (aI i) = some (aB false) := rfl
theorem cEqD_L (ns ms : List Int) : cEqD (dL ns) (dL ms) = some (decide (ns = ms)) := by
  unfold cEqD; rw [if_pos ⟨shaped_dL _, shaped_dL _⟩, eqv_dL]
theorem cEqD_LL (ns ms : List (List Int)) : cEqD (dLL ns) (dLL ms) = some (decide (ns = ms)) := by
  unfold cEqD; rw [if_pos ⟨shaped_LL _, shaped_LL _⟩, eqv_LL]
theorem cEq_L (ns ms : List Int) : cEq (aL ns) (aL ms) = some (decide (ns = ms)) := cEqD_L ns ms
theorem cEq_I (i j : Int) : cEq (aI i) (aI j) = some (decide (i = j)) := rfl
theorem cNe_I (i j : Int) : cNe (aI i) (aI j) = some (!decide (i = j)) := rfl
theorem asB_b (b : Bool) : asB (aB b) = some b := rfl
theorem asI_i (i : Int) : asI (aI i) = some i := rfl
theorem asL_l (ds : List PyData) : asL (.d (.list ds)) = some ds := rfl
theorem asIs_l (ns : List Int) : asIs (aL ns) = some ns := intsOf_d ns
theorem fLen_l (ds : List PyData) : fLen [.d (.list ds)] = some (aI ds.length) := rfl
theorem fLen_s (ns : List Int) : fLen [.sc ns] = some (aI ns.length) := rfl
theorem pB_a (c : Av → Av → Option Bool) (x y : Av) : pB c x y = (c x y).map aB := rfl
theorem pAdd_i (i j : Int) : pAdd (aI i) (aI j) = some (aI (i + j)) := rfl
theorem pSub_i (i j : Int) : pSub (aI i) (aI j) = some (aI (i - j)) := rfl
theorem pNeg_i (i : Int) : pNeg (aI i) = some (aI (-i)) := rfl
theorem pMod_i {i j : Int} (h : 0 < j) : pMod (aI i) (aI j) = some (aI (i % j)) := if_pos h
theorem cLt_i (i j : Int) : cLt (aI i) (aI j) = some (decide (i < j)) := rfl
theorem cLe_i (i j : Int) : cLe (aI i) (aI j) = some (decide (i ≤ j)) := rfl
theorem cGt_i (i j : Int) : cGt (aI i) (aI j) = some (decide (j < i)) := rfl
theorem cGe_i (i j : Int) : cGe (aI i) (aI j) = some (decide (j ≤ i)) := rfl
theorem fLst_of {xs : List Av} {ds : List PyData} (h : unD xs = some ds) (hl : ds.length ≤ sizeLine) : fLst xs = some (.d (.list ds)) := by
  unfold fLst; rw [h]; exact if_pos hl
theorem fTup_of {xs : List Av} {ds : List PyData} (h : unD xs = some ds) (hl : ds.length ≤ sizeLine) : fTup xs = some (.d (.tuple ds)) := by
  unfold fTup; rw [h]; exact if_pos hl
theorem len_sz {n : Nat} (h : n ≤ 10000) : n ≤ sizeLine := by rw [sizeLine_eq]; omega
theorem fLst_0 : fLst [] = some (.d (.list [])) := fLst_of rfl (len_sz (by simp))
theorem fLst_1 (a : PyData) : fLst [.d a] = some (.d (.list [a])) := fLst_of rfl (len_sz (by simp))
theorem fLst_2 (a b : PyData) : fLst [.d a, .d b] = some (.d (.list [a, b])) := fLst_of rfl (len_sz (by simp))
theorem fLst_3 (a b c : PyData) : fLst [.d a, .d b, .d c] = some (.d (.list [a, b, c])) := fLst_of rfl (len_sz (by simp))
theorem fLst_4 (a b c d : PyData) : fLst [.d a, .d b, .d c, .d d] = some (.d (.list [a, b, c, d])) := fLst_of rfl (len_sz (by simp))
theorem fLst_5 (a b c d e : PyData) : fLst [.d a, .d b, .d c, .d d, .d e] = some (.d (.list [a, b, c, d, e])) := fLst_of rfl (len_sz (by simp))
theorem fLst_6 (a b c d e f : PyData) : fLst [.d a, .d b, .d c, .d d, .d e, .d f] = some (.d (.list [a, b, c, d, e, f])) := fLst_of rfl (len_sz (by simp))
theorem fLst_7 (a b c d e f g : PyData) : fLst [.d a, .d b, .d c, .d d, .d e, .d f, .d g] = some (.d (.list [a, b, c, d, e, f, g])) := fLst_of rfl (len_sz (by simp))
theorem fLst_8 (a b c d e f g h : PyData) : fLst [.d a, .d b, .d c, .d d, .d e, .d f, .d g, .d h] = some (.d (.list [a, b, c, d, e, f, g, h])) := fLst_of rfl (len_sz (by simp))
theorem fTup_1 (a : PyData) : fTup [.d a] = some (.d (.tuple [a])) := fTup_of rfl (len_sz (by simp))
theorem fTup_2 (a b : PyData) : fTup [.d a, .d b] = some (.d (.tuple [a, b])) := fTup_of rfl (len_sz (by simp))
theorem fTup_3 (a b c : PyData) : fTup [.d a, .d b, .d c] = some (.d (.tuple [a, b, c])) := fTup_of rfl (len_sz (by simp))
macro "te" " [" ts:Lean.Parser.Tactic.simpLemma,* "]" : tactic => `(tactic| tv [isi_ii, isi_bi, isi_ll, isi_tt, isi_tl, isi_ti, isi_li, cEq_L, cEq_I, cNe_I, asB_b, asI_i, asL_l, asIs_l, fLen_l, fLen_s, pB_a, pAdd_i, pSub_i, pNeg_i, cLt_i, cLe_i, cGt_i, cGe_i, fLst_0, fLst_1, fLst_2, fLst_3, fLst_4, fLst_5, fLst_6, fLst_7, fLst_8, fTup_1, fTup_2, fTup_3, $ts,*])
/-- generators: all(..) -/
theorem genL_all {α : Type} {env : PyData → List Sl} {ok : PyData → Bool} {t : Ev} (f : α → PyData) (p : α → V) : ∀ {xs : List α}, (∀ x ∈ xs, ok (f x) = true ∧ ∃ a, t (env (f x)) = vl a ∧ vOf a = some (p x)) → genL env ok M.tYes t (xs.map f) = some (xs.map p)
  | [], _ => rfl
  | x :: r, h => by
    obtain ⟨h1, a, h2, h3⟩ := h x (by simp)
    have ih := genL_all f p (xs := r) fun y hy => h y (by simp [hy])
    simp only [List.map_cons, genL, h1, if_true, okO, h2, Option.bind_some, h3, tYes_a]
    rw [ih]
    rfl
theorem cAll_bl (ks : List Bool) : cAll (ks.map V.bl) = some (.bl (ks.all id)) := by
  have : vBls (ks.map V.bl) = some ks := by
    induction ks with
    | nil => rfl
    | cons k r ih => show (vBls (r.map V.bl)).map (k :: ·) = _; rw [ih]; rfl
  unfold cAll; rw [this]; rfl
theorem cSum_int (ks : List Int) : cSum (ks.map V.int) = some (.int ks.sum) := by
  have : vInts (ks.map V.int) = some ks := by
    induction ks with
    | nil => rfl
    | cons k r ih => show (vInts (r.map V.int)).map (k :: ·) = _; rw [ih]; rfl
  unfold cSum; rw [this]; rfl
/-- all(p(x) for x in xs) -/
theorem eGen_all {α : Type} {g : TgE} {it : EvD} {t : Ev} {τ : List Sl} (f : α → PyData) (p : α → Bool) (xs : List α) (hi : it τ = vl (xs.map f)) (hn : noOwB τ g.vs = true) (h : ∀ x ∈ xs, g.ok (f x) = true ∧ t (g.set (f x) (wipeS τ g.vs)) = vl (aB (p x))) :
    eGen g it M.tYes t cAll τ = vl (aB (xs.all p)) := by
  unfold eGen
  rw [hi]
  simp only [bnd, hn, if_true]
  rw [genL_all f (fun x => V.bl (p x)) fun x hx => ⟨(h x hx).1, _, (h x hx).2, rfl⟩, Option.bind_some, show (xs.map fun x => V.bl (p x)) = (xs.map p).map V.bl by rw [List.map_map]; rfl, cAll_bl]
  simp [avOf, lif]
theorem eGen_sum {α : Type} {g : TgE} {it : EvD} {t : Ev} {τ : List Sl} (f : α → PyData) (p : α → Int) (xs : List α) (hi : it τ = vl (xs.map f)) (hn : noOwB τ g.vs = true) (h : ∀ x ∈ xs, g.ok (f x) = true ∧ t (g.set (f x) (wipeS τ g.vs)) = vl (aI (p x))) :
    eGen g it M.tYes t cSum τ = vl (aI (xs.map p).sum) := by
  unfold eGen
  rw [hi]
  simp only [bnd, hn, if_true]
  rw [genL_all f (fun x => V.int (p x)) fun x hx => ⟨(h x hx).1, _, (h x hx).2, rfl⟩, Option.bind_some, show (xs.map fun x => V.int (p x)) = (xs.map p).map V.int by rw [List.map_map]; rfl, cSum_int]
  simp [avOf, lif]
theorem mulW {i j : Int} (a b : Nat) (ha : i.natAbs < 2 ^ a) (hb : j.natAbs < 2 ^ b) (h0 : 0 < a := by decide) (h1 : 0 < b := by decide) (h : a + b ≤ 1000000 := by decide) : CMulW i j := wide_mul ha hb h0 h1 h
theorem pMul_i {i j : Int} (h : CMulW i j) : pMul (aI i) (aI j) = some (aI (i * j)) := if_pos h
theorem pDiv_i {i j : Int} (h : CDivW i j) : pDiv (aI i) (aI j) = some (aI (i / j)) := if_pos h
theorem pPow_i {i j : Int} (h : CPowW i j) : pPow (aI i) (aI j) = some (aI (i ^ j.toNat)) := if_pos h
theorem pBand_i (i j : Int) : pBand (aI i) (aI j) = some (aI (Builtin.bitAnd i j)) := rfl
theorem asTr_b (b : Bool) : asTr (aB b) = some b := rfl
theorem asTr_i (i : Int) : asTr (aI i) = some (i != 0) := rfl
theorem pIx_sc {ns : List Int} {i x : Int} (h : atI ns i = some x) : pIx (.sc ns) (aI i) = some (aI x) := by show (atI ns i).map aI = _; rw [h]; rfl
theorem pIx_l {ds : List PyData} {i : Int} {x : PyData} (h : atI ds i = some x) : pIx (.d (.list ds)) (aI i) = some (.d x) := by show (atI ds i).map Av.d = _; rw [h]; rfl
theorem pIx_t {ds : List PyData} {i : Int} {x : PyData} (h : atI ds i = some x) : pIx (.d (.tuple ds)) (aI i) = some (.d x) := by show (atI ds i).map Av.d = _; rw [h]; rfl
theorem iRg1_of {t : Ev} {τ : List Sl} {m : Nat} (h : t τ = vl (aI m)) (hm : m ≤ 1000000) : iRg1 t τ = vl (rangeD 0 m) := by
  have h1 : -(2 ^ 62) ≤ (m : Int) ∧ (m : Int) < 2 ^ 62 := by omega
  rw [iRg1_a, h, bnd_vl, show asI (aI m) = some (m : Int) from rfl, lif_some, bnd_vl, if_pos h1, Int.toNat_natCast]
theorem sFor_of {g : TgE} {it : EvD} {body : EvS} {τ : List Sl} {ds : List PyData} {r : Option (Out × List Sl)} (h : it τ = vl ds) (e : forL g body ds τ = r) : sFor g it body τ = r := by rw [sFor_a, h]; exact e
theorem sSeq_nx {s u : EvS} {τ τ' : List Sl} (h : s τ = some (.nx, τ')) : sSeq s u τ = u τ' := by rw [sSeq_a, h]
theorem forL_inv {g : TgE} {body : EvS} (I : Nat → List Sl → Prop) : ∀ (ds : List PyData) (τ : List Sl) (i : Nat), I i τ → (∀ k d τ, ds[k]? = some d → I (i + k) τ → g.ok d = true ∧ ∃ τ', (body (g.set d τ) = some (.nx, τ') ∨ body (g.set d τ) = some (.ct, τ')) ∧ I (i + k + 1) τ') →
    ∃ τ', forL g body ds τ = some (.nx, τ') ∧ I (i + ds.length) τ'
  | [], τ, i, h, _ => ⟨τ, rfl, h⟩
  | d :: r, τ, i, h, hs => by
    obtain ⟨h1, τ', h2, h3⟩ := hs 0 d τ rfl h
    obtain ⟨τ2, h4, h5⟩ := forL_inv I r τ' (i + 1) h3 fun k e σ hk hI => by
      have := hs (k + 1) e σ (by simpa using hk) (by rw [show i + (k + 1) = i + 1 + k by omega]; exact hI)
      rw [show i + (k + 1) = i + 1 + k by omega] at this
      exact this
    refine ⟨τ2, ?_, by rw [show i + (d :: r).length = i + 1 + r.length by simp; omega]; exact h5⟩
    unfold forL
    rw [if_pos h1]
    rcases h2 with h2 | h2 <;> rw [h2] <;> exact h4
theorem forL_ok {g : TgE} {body : EvS} (I : Nat → List Sl → Prop) (ds : List PyData) (τ : List Sl) (h : I 0 τ) (hs : ∀ k d τ, ds[k]? = some d → I k τ → g.ok d = true ∧ ∃ τ', (body (g.set d τ) = some (.nx, τ') ∨ body (g.set d τ) = some (.ct, τ')) ∧ I (k + 1) τ') : ∃ τ', forL g body ds τ = some (.nx, τ') ∧ I ds.length τ' := by
  have := forL_inv I ds τ 0 h fun k d τ hk hI => by rw [Nat.zero_add] at hI ⊢; exact hs k d τ hk hI
  rwa [Nat.zero_add] at this
theorem dints_snoc (ds : List Int) (v : Int) : dints ds ++ [PyData.int v] = dints (ds ++ [v]) := by simp [dints]
theorem pows_ok : ∃ x, pPow (aI 2) (aI 60) = some (aI x) ∧ ∃ y, pPow (aI x) (aI 60) = some (aI y) ∧ ∃ z, pPow (aI y) (aI 6) = some (aI z) :=
  ⟨(2 : Int) ^ Int.toNat 60, pPow_i (show CPowW 2 60 from ⟨by decide, by decide +kernel⟩), ((2 : Int) ^ Int.toNat 60) ^ Int.toNat 60, pPow_i (show CPowW ((2 : Int) ^ Int.toNat 60) 60 from ⟨by decide, by decide +kernel⟩), (((2 : Int) ^ Int.toNat 60) ^ Int.toNat 60) ^ Int.toNat 6, pPow_i (show CPowW (((2 : Int) ^ Int.toNat 60) ^ Int.toNat 60) 6 from ⟨by decide, by decide +kernel⟩)⟩
theorem p18_ok : ∃ x, pPow (aI 10) (aI 18) = some (aI x) := ⟨_, pPow_i (show CPowW 10 18 from ⟨by decide, by decide +kernel⟩)⟩
theorem p9_ok : pPow (aI 10) (aI 9) = some (aI 1000000000) := by
  have h := pPow_i (show CPowW 10 9 from ⟨by decide, by decide +kernel⟩)
  rw [h, show (10 : Int) ^ Int.toNat 9 = 1000000000 by decide]

/-- what a statement comes to -/
def Wp (s : EvS) (τ : List Sl) (Q : Out → List Sl → Prop) : Prop := ∃ o τ', s τ = some (o, τ') ∧ Q o τ'
section
variable {s u : EvS} {τ τ' : List Sl} {Q : Out → List Sl → Prop} {t : Ev} {x : Av} {k m : Nat} {xs : List Av} {g : TgE} {it : EvD} {body : EvS} {ds : List PyData}
theorem wp_of {o : Out} (e : s τ = some (o, τ')) (q : Q o τ') : Wp s τ Q := ⟨o, τ', e, q⟩
theorem wp_step (e : s τ = some (.nx, τ')) (h : Wp u τ' Q) : Wp (sSeq s u) τ Q := by
  obtain ⟨o, σ, h1, h2⟩ := h
  exact ⟨o, σ, by rw [sSeq_nx e, h1], h2⟩
theorem wp_seq (h : Wp s τ fun o τ' => o = .nx ∧ Wp u τ' Q) : Wp (sSeq s u) τ Q := by
  obtain ⟨o, σ, h1, rfl, h2⟩ := h
  exact wp_step h1 h2
theorem wp_ret (e : t τ = vl x) (q : Q (.rt x) τ) : Wp (sSeq (sRet t) u) τ Q := ⟨_, _, by rw [sSeq_a, sRet_a, e]; rfl, q⟩
theorem wp_raise {z : Str} (q : Q (.ex z) τ) : Wp (sSeq (sRaise z) u) τ Q := ⟨_, _, rfl, q⟩
theorem wp_nil (q : Q .nx τ) : Wp sNil τ Q := ⟨_, _, rfl, q⟩
theorem wp_for (I : Nat → List Sl → Prop) (hi : it τ = vl ds) (h0 : I 0 τ) (hs : ∀ k d τ, ds[k]? = some d → I k τ → g.ok d = true ∧ Wp body (g.set d τ) fun o τ' => (o = .nx ∨ o = .ct) ∧ I (k + 1) τ') (h : ∀ τ', I ds.length τ' → Wp u τ' Q) : Wp (sSeq (sFor g it body) u) τ Q := by
  obtain ⟨σ, e, hI⟩ := forL_ok I ds τ h0 fun k d τ1 hd h1 => by
    obtain ⟨g1, o, τ2, e, ho, h2⟩ := hs k d τ1 hd h1
    exact ⟨g1, τ2, by rcases ho with rfl | rfl; exact .inl e; exact .inr e, h2⟩
  exact wp_step (sFor_of hi e) (h σ hI)
/-- the last statement is a loop -/
theorem wp_for' (I : Nat → List Sl → Prop) (hi : it τ = vl ds) (h0 : I 0 τ) (hs : ∀ k d τ, ds[k]? = some d → I k τ → g.ok d = true ∧ Wp body (g.set d τ) fun o τ' => (o = .nx ∨ o = .ct) ∧ I (k + 1) τ') (h : ∀ τ', I ds.length τ' → Q .nx τ') : Wp (sSeq (sFor g it body) sNil) τ Q := wp_for I hi h0 hs fun τ' hI => wp_nil (h τ' hI)
theorem wp_ift {c : EvB} {a b : EvS} (e : c τ = vl true) (h : Wp a τ fun o τ' => o = .nx ∧ Wp u τ' Q) : Wp (sSeq (sIf c a b) u) τ Q := by
  obtain ⟨o, σ, h1, rfl, h2⟩ := h
  exact wp_step (by rw [sIf_a, e]; exact h1) h2
theorem wp_iff {c : EvB} {a b : EvS} (e : c τ = vl false) (h : Wp b τ fun o τ' => o = .nx ∧ Wp u τ' Q) : Wp (sSeq (sIf c a b) u) τ Q := by
  obtain ⟨o, σ, h1, rfl, h2⟩ := h
  exact wp_step (by rw [sIf_a, e]; exact h1) h2
/-- the way that isn't gone -/
theorem wp_if0 {c : EvB} {a : EvS} (e : c τ = vl false) (h : Wp u τ Q) : Wp (sSeq (sIf c a sNil) u) τ Q := wp_step (by rw [sIf_a, e]; rfl) h
/-- the way out -/
theorem wp_ifr {c : EvB} {a b : EvS} (e : c τ = vl true) {o : Out} (ho : o ≠ .nx) (h : a τ = some (o, τ')) (q : Q o τ') : Wp (sSeq (sIf c a b) u) τ Q := ⟨o, τ', by
  rw [sSeq_a, sIf_a, e]
  show (match (if true = true then a τ else b τ) with | some (.nx, τ') => u τ' | o => o) = _
  rw [if_pos rfl, h]
  cases o <;> first | rfl | exact absurd rfl ho, q⟩
theorem run_eq (hl : xs.length = k) (h : Wp s (xs.map Sl.st ++ List.replicate m .no) fun o _ => o = .rt x) : runF k m s xs = vl x := by
  obtain ⟨o, σ, h1, rfl⟩ := h
  unfold runF; rw [if_pos hl, h1]
theorem run_nx (hl : xs.length = k) (h : Wp s (xs.map Sl.st ++ List.replicate m .no) fun o _ => o = .nx) : runF k m s xs = vl aN := by
  obtain ⟨o, σ, h1, rfl⟩ := h
  unfold runF; rw [if_pos hl, h1]
theorem run_ex {z : Str} (hl : xs.length = k) (h : Wp s (xs.map Sl.st ++ List.replicate m .no) fun o _ => o = .ex z) : runF k m s xs = some (.error z) := by
  obtain ⟨o, σ, h1, rfl⟩ := h
  unfold runF; rw [if_pos hl, h1]
theorem run_some {P : Av → Prop} (hl : xs.length = k) (h : Wp s (xs.map Sl.st ++ List.replicate m .no) fun o _ => ∃ x, o = .rt x ∧ P x) : ∃ x, runF k m s xs = vl x ∧ P x := by
  obtain ⟨o, σ, h1, x, rfl, p⟩ := h
  exact ⟨x, by unfold runF; rw [if_pos hl, h1], p⟩
end
/-- [t for x in xs if c] -/
theorem lcL_ok {α : Type} {env : PyData → List Sl} {ok : PyData → Bool} {c : EvB} {t : Ev} (f : α → PyData) (p : α → Bool) (v : α → PyData) : ∀ {xs : List α}, (∀ x ∈ xs, ok (f x) = true ∧ c (env (f x)) = vl (p x) ∧ (p x = true → t (env (f x)) = vl (.d (v x)))) → lcL env ok c t (xs.map f) = some ((xs.filter p).map v)
  | [], _ => rfl
  | x :: r, h => by
    obtain ⟨h1, h2, h3⟩ := h x (by simp)
    have ih := lcL_ok f p v (xs := r) fun y hy => h y (by simp [hy])
    simp only [List.map_cons, lcL, h1, if_true, okO, h2]
    cases hp : p x
    · simp only [List.filter_cons, hp, if_false, Bool.false_eq_true]; exact ih
    · simp only [h3 hp, Option.bind_some, asD, ih, List.filter_cons, hp, if_true, List.map_cons, Option.map_some]
theorem eLc_ok {α : Type} {g : TgE} {it : EvD} {c : EvB} {t : Ev} {τ : List Sl} (f : α → PyData) (p : α → Bool) (v : α → PyData) (xs : List α) (hi : it τ = vl (xs.map f)) (hn : noOwB τ g.vs = true) (hl : xs.length ≤ 1000) (h : ∀ x ∈ xs, g.ok (f x) = true ∧ c (g.set (f x) (wipeS τ g.vs)) = vl (p x) ∧ (p x = true → t (g.set (f x) (wipeS τ g.vs)) = vl (.d (v x)))) :
    eLc g it c t τ = vl (.d (.list ((xs.filter p).map v))) := by
  have hsz : (xs.map f).length < sizeLine := by rw [List.length_map, sizeLine_eq]; omega
  rw [eLc_a, dLc_a, hi, bnd_vl, if_pos ⟨hsz, hn⟩, lcL_ok f p v h]
  rfl
theorem eLc_map {α : Type} {g : TgE} {it : EvD} {t : Ev} {τ : List Sl} (f : α → PyData) (v : α → PyData) (xs : List α) (hi : it τ = vl (xs.map f)) (hn : noOwB τ g.vs = true) (hl : xs.length ≤ 1000) (h : ∀ x ∈ xs, g.ok (f x) = true ∧ t (g.set (f x) (wipeS τ g.vs)) = vl (.d (v x))) :
    eLc g it M.tYes t τ = vl (.d (.list (xs.map v))) := by
  have := eLc_ok (c := M.tYes) f (fun _ => true) v xs hi hn hl fun x hx => ⟨(h x hx).1, rfl, fun _ => (h x hx).2⟩
  rw [this, List.filter_eq_self.mpr (fun _ _ => rfl)]
end M

set_option linter.all false
set_option maxRecDepth 100000
set_option maxHeartbeats 1000000
namespace KX
open PySem PySem.Spec PyProof.Rows L2 M
theorem whole_i (i : Int) : f_is_whole [aI i] = vl (aB true) := rfl
theorem lwhole_i (i : Int) : f__law_whole [aI i] = vl (aB true) := rfl
theorem name_i (i : Int) : f_is_name [aI i] = vl (aB (decide (0 ≤ i))) := rfl
theorem ranking_ok {ns : List Int} (h1 : 1 ≤ ns.length) (h2 : ns.length ≤ 10) (h3 : ∀ i ∈ ns, 0 ≤ i) (nd : ns.Nodup) : f_is_ranking [aL ns] = vl (aB true) := by
  have e : eGen (g1 1) (iL (eVar 0)) M.tYes (eCall f_is_name (aCons (eVar 1) aNil)) cAll [.st (aL ns), .no] = vl (aB (ns.all fun i => decide (0 ≤ i))) :=
    eGen_all PyData.int _ ns rfl rfl fun i _ => ⟨rfl, name_i i⟩
  have e2' : (ns.all fun i => decide (0 ≤ i)) = true := by simpa using h3
  rw [e2'] at e
  have e3 : pLenSet (aL ns) = some (aI (ns.length : Nat)) := by
    show (intsOf (dints ns)).bind _ = _
    rw [intsOf_d, Option.bind_some, if_pos (by omega), dist_nd nd]
  have h4 : (1 : Int) ≤ (ns.length : Int) := by omega
  have h5 : (ns.length : Int) ≤ 10 := by omega
  unfold f_is_ranking t_is_ranking
  te [e, e3, List.length_map, h4, h5, decide_true]
theorem push {ds : List Int} {v : Int} (hx : ∀ d ∈ ds, 0 ≤ d ∧ d < 1000000000) (v0 : 0 ≤ v) (v1 : v < 1000000000) : (∀ d ∈ ds ++ [v], 0 ≤ d ∧ d < 1000000000) := fun d hd => by
  rcases List.mem_append.mp hd with q | q
  · exact hx d q
  · have : d = v := by simpa using q
    rw [this]; exact ⟨v0, v1⟩
noncomputable abbrev drB : EvS := (sSeq (sIf (b1 asTr (eVar 4)) (sSeq (sApp 6 (e2 pMod (eVar 3) (e2 pPow (eC (aI 10)) (eC (aI 9))))) (sSeq (sAsg 3 (e2 pDiv (eVar 3) (e2 pPow (eC (aI 10)) (eC (aI 9))))) sNil)) (sSeq (sAsg 8 (e2 pMod (e2 pAdd (eVar 5) (e2 pMul (eC (aI 48271)) (e2 pAdd (eVar 7) (eC (aI 1))))) (eC (aI 2147483629)))) (sSeq (sAsg 8 (e2 pMod (e2 pAdd (e2 pMul (eVar 8) (eVar 8)) (eVar 7)) (eC (aI 2147483629)))) (sSeq (sApp 6 (e2 pMod (e2 pMod (e2 pMul (eVar 8) (eVar 8)) (eC (aI 2147483587))) (e2 pPow (eC (aI 10)) (eC (aI 9))))) sNil)))) sNil)
theorem dr_f {x0 x1 x2 : Sl} {c num : Int} {ds : List Int} {s7 s8 : Sl} {i : Nat} (him : i < 1000) (hds : (dints ds).length < sizeLine) (hx : ∀ d ∈ ds, 0 ≤ d ∧ d < 1000000000) :
    ∃ v s8', drB [x0, x1, x2, .st (aI c), .st (aB false), .st (aI num), .ow (dints ds), .st (aI i), s8] = some (.nx, [x0, x1, x2, .st (aI c), .st (aB false), .st (aI num), .ow (dints (ds ++ [v])), .st (aI i), s8']) ∧ 0 ≤ v ∧ v < 1000000000 := by
  have p9 := p9_ok
  generalize hw : (num + 48271 * ((i : Int) + 1)) % 2147483629 = w1
  have w0 : 0 ≤ w1 := by rw [← hw]; exact Int.emod_nonneg _ (by decide)
  have w2 : w1 < 2147483629 := by rw [← hw]; exact Int.emod_lt_of_pos _ (by decide)
  generalize hv : (w1 * w1 + (i : Int)) % 2147483629 = w3
  have v0 : 0 ≤ w3 := by rw [← hv]; exact Int.emod_nonneg _ (by decide)
  have v2 : w3 < 2147483629 := by rw [← hv]; exact Int.emod_lt_of_pos _ (by decide)
  have m1 : pMul (aI 48271) (aI ((i : Int) + 1)) = some (aI (48271 * ((i : Int) + 1))) := pMul_i (mulW 16 11 (by decide) (by omega))
  have m2 : pMul (aI w1) (aI w1) = some (aI (w1 * w1)) := pMul_i (mulW 31 31 (by omega) (by omega))
  have m3 : pMul (aI w3) (aI w3) = some (aI (w3 * w3)) := pMul_i (mulW 31 31 (by omega) (by omega))
  generalize hz : w3 * w3 % 2147483587 % 1000000000 = z
  refine ⟨z, .st (aI w3), ?_, by rw [← hz]; exact Int.emod_nonneg _ (by decide), by rw [← hz]; exact Int.emod_lt_of_pos _ (by decide)⟩
  unfold drB
  te [asTr_b, m1, m2, m3, hw, hv, p9, pMod_i (show (0:Int) < 2147483629 by decide), pMod_i (show (0:Int) < 2147483587 by decide), pMod_i (show (0:Int) < 1000000000 by decide), hds, hz, dints_snoc]
theorem dr_t {x0 x1 x2 : Sl} {c num : Int} {ds : List Int} {s7 s8 : Sl} {i : Nat} (hds : (dints ds).length < sizeLine) (hx : ∀ d ∈ ds, 0 ≤ d ∧ d < 1000000000) :
    ∃ c' v, drB [x0, x1, x2, .st (aI c), .st (aB true), .st (aI num), .ow (dints ds), .st (aI i), s8] = some (.nx, [x0, x1, x2, .st (aI c'), .st (aB true), .st (aI num), .ow (dints (ds ++ [v])), .st (aI i), s8]) ∧ 0 ≤ v ∧ v < 1000000000 := by
  have p9 := p9_ok
  generalize hz : c % 1000000000 = z
  refine ⟨c / 1000000000, z, ?_, by rw [← hz]; exact Int.emod_nonneg _ (by decide), by rw [← hz]; exact Int.emod_lt_of_pos _ (by decide)⟩
  unfold drB
  te [asTr_b, p9, pMod_i (show (0:Int) < 1000000000 by decide), pDiv_i (show CDivW c 1000000000 from ⟨by decide, by decide +kernel⟩), hds, hz, dints_snoc]
theorem draws_ok (ns : List Int) (j m : Nat) (hj : j ≤ 1000000) (hm : m ≤ 1000) (hb : ∀ z ∈ ns, Builtin.Int.intBits z ≤ 1048576) :
    ∃ ds : List Int, f__law_draws [.sc ns, aI j, aI m] = vl (aL ds) ∧ ds.length = m ∧ ∀ d ∈ ds, 0 ≤ d ∧ d < 1000000000 := by
  have hsz := sizeLine_eq
  obtain ⟨t18, p18⟩ := p18_ok
  have p9 := p9_ok
  obtain ⟨x6, p60, y6, p60b, z6, p60c⟩ := pows_ok
  unfold f__law_draws t__law_draws
  simp only [runF, List.map_cons, List.map_nil, List.length_cons, List.length_nil, List.replicate, List.cons_append, List.nil_append, Nat.reduceAdd, if_true]
  rw [sSeq_nx (show sAsg 3 (eC (aI 0)) _ = some (.nx, [.st (.sc ns), .st (aI j), .st (aI m), .st (aI 0), .no, .no, .no, .no, .no]) from rfl)]
  have s2 : ∃ c : Int, sIf (b2 cGt (eF fLen (aCons (eVar 0) aNil)) (eC (aI 0))) (sSeq (sAsg 3 (e2 pIx (eVar 0) (e2 pMod (eVar 1) (eF fMin2 (aCons (eC (aI 63)) (aCons (eF fLen (aCons (eVar 0) aNil)) aNil)))))) sNil) sNil [.st (.sc ns), .st (aI j), .st (aI m), .st (aI 0), .no, .no, .no, .no, .no] = some (.nx, [.st (.sc ns), .st (aI j), .st (aI m), .st (aI c), .no, .no, .no, .no, .no]) := by
    by_cases q : (0 : Int) < (ns.length : Int)
    · have hpos : (0 : Int) < (if (ns.length : Int) < 63 then (ns.length : Int) else 63) := by split <;> omega
      have hle : (if (ns.length : Int) < 63 then (ns.length : Int) else 63) ≤ ns.length := by split <;> omega
      have i0 := Int.emod_nonneg (j : Int) (Int.ne_of_gt hpos)
      have i1 := Int.emod_lt_of_pos (j : Int) hpos
      obtain ⟨p, hp2⟩ := Int.eq_ofNat_of_zero_le i0
      have hpp : p < ns.length := by omega
      have hg : ns[p]? = some ns[p] := List.getElem?_eq_getElem hpp
      refine ⟨ns[p], ?_⟩
      have m2 : fMin2 [aI 63, aI ns.length] = some (aI (if (ns.length : Int) < 63 then (ns.length : Int) else 63)) := rfl
      have m3 : pIx (.sc ns) (aI ((j : Int) % (if (ns.length : Int) < 63 then (ns.length : Int) else 63))) = some (aI ns[p]) := pIx_sc (by rw [hp2]; exact M.atI_nat hg)
      te [decide_eq_true q, m2, pMod_i hpos, m3]
    · refine ⟨0, ?_⟩
      te [decide_eq_false q]
  obtain ⟨c, s2⟩ := s2
  rw [sSeq_nx s2]
  have s3 : ∃ b : Bool, sAsg 4 (vAnd (e2 (pB cLt) (eVar 1) (eF fLen (aCons (eVar 0) aNil))) (e2 (pB cGe) (eVar 3) (e2 pPow (eC (aI 10)) (eC (aI 18))))) [.st (.sc ns), .st (aI j), .st (aI m), .st (aI c), .no, .no, .no, .no, .no] = some (.nx, [.st (.sc ns), .st (aI j), .st (aI m), .st (aI c), .st (aB b), .no, .no, .no, .no]) := by
    by_cases q : (j : Int) < (ns.length : Int)
    · exact ⟨_, by te [decide_eq_true q, p18]; rfl⟩
    · exact ⟨_, by te [decide_eq_false q]; rfl⟩
  obtain ⟨b, s3⟩ := s3
  rw [sSeq_nx s3]
  have s4 : ∃ c2 : Int, sIf (b1 asTr (eVar 4)) (sSeq (sAsg 3 (e2 pBand (eVar 3) (e2 pSub (e2 pPow (e2 pPow (e2 pPow (eC (aI 2)) (eC (aI 60))) (eC (aI 60))) (eC (aI 6))) (eC (aI 1))))) sNil) sNil [.st (.sc ns), .st (aI j), .st (aI m), .st (aI c), .st (aB b), .no, .no, .no, .no] = some (.nx, [.st (.sc ns), .st (aI j), .st (aI m), .st (aI c2), .st (aB b), .no, .no, .no, .no]) := by
    cases b
    · exact ⟨c, by te [asTr_b]⟩
    · exact ⟨_, by te [asTr_b, p60, p60b, p60c, pBand_i]; rfl⟩
  obtain ⟨c2, s4⟩ := s4
  rw [sSeq_nx s4]
  have s5 : ∃ num : Int, sAsg 5 (e2 pAdd (e2 pMod (eVar 3) (eC (aI 2147483629))) (e2 pMul (eC (aI 69621)) (eVar 1))) [.st (.sc ns), .st (aI j), .st (aI m), .st (aI c2), .st (aB b), .no, .no, .no, .no] = some (.nx, [.st (.sc ns), .st (aI j), .st (aI m), .st (aI c2), .st (aB b), .st (aI num), .no, .no, .no]) :=
    ⟨_, by te [pMod_i (show (0:Int) < 2147483629 by decide), pMul_i (show CMulW 69621 (j : Int) from mulW 20 21 (by decide) (by omega))]; rfl⟩
  obtain ⟨num, s5⟩ := s5
  rw [sSeq_nx s5, sSeq_nx (show sOwn 6 (dF (eF fLst aNil)) _ = some (.nx, [.st (.sc ns), .st (aI j), .st (aI m), .st (aI c2), .st (aB b), .st (aI num), .ow [], .no, .no]) from by te [])]
  have lr := rangeD_len 0 m
  obtain ⟨τ', e, hI⟩ := forL_ok (g := g1 7) (body := drB)
    (fun i τ => ∃ (c : Int) (ds : List Int) (s7 s8 : Sl), τ = [.st (.sc ns), .st (aI j), .st (aI m), .st (aI c), .st (aB b), .st (aI num), .ow (dints ds), s7, s8] ∧ ds.length = i ∧ (∀ d ∈ ds, 0 ≤ d ∧ d < 1000000000))
    (rangeD 0 m) [.st (.sc ns), .st (aI j), .st (aI m), .st (aI c2), .st (aB b), .st (aI num), .ow [], .no, .no] ⟨c2, [], .no, .no, rfl, rfl, by simp⟩ fun i d τ hd ⟨c, ds, s7, s8, et, hl, hx⟩ => by
      obtain ⟨hi, rfl⟩ := rangeD_get hd
      have him : i < m := by simpa using hi
      subst et
      rw [Int.zero_add]
      refine ⟨rfl, ?_⟩
      have hds : (dints ds).length < sizeLine := by rw [List.length_map]; omega
      cases b
      · obtain ⟨v, s8', e, v0, v1⟩ := dr_f (x0 := .st (.sc ns)) (x1 := .st (aI j)) (x2 := .st (aI m)) (c := c) (num := num) (s7 := s7) (s8 := s8) (i := i) (by omega) hds hx
        exact ⟨_, .inl e, c, ds ++ [v], _, _, rfl, by simp [hl], push hx v0 v1⟩
      · obtain ⟨c', v, e, v0, v1⟩ := dr_t (x0 := .st (.sc ns)) (x1 := .st (aI j)) (x2 := .st (aI m)) (c := c) (num := num) (s7 := s7) (s8 := s8) (i := i) hds hx
        exact ⟨_, .inl e, c', ds ++ [v], _, _, rfl, by simp [hl], push hx v0 v1⟩
  obtain ⟨c, ds, s7, s8, et, hl, hx⟩ := hI
  subst et
  refine ⟨ds, ?_, by rw [hl]; exact lr, hx⟩
  have ei := iRg1_of (t := eVar 2) (τ := [.st (.sc ns), .st (aI j), .st (aI m), .st (aI c2), .st (aB b), .st (aI num), .ow [], .no, .no]) (m := m) rfl (by omega)
  have ef := sFor_of ei e
  unfold drB at ef
  rw [sSeq_nx ef]
  te []
end KX

set_option linter.all false
set_option maxRecDepth 100000
set_option maxHeartbeats 1000000
namespace KX
open PySem PySem.Spec PyProof.Rows L2 M
theorem pIx_mem {ds : List PyData} {i : Int} (h0 : 0 ≤ i) (h1 : i < ds.length) : ∃ x ∈ ds, pIx (.d (.list ds)) (aI i) = some (.d x) := by
  obtain ⟨p, rfl⟩ := Int.eq_ofNat_of_zero_le h0
  have hp : p < ds.length := by omega
  exact ⟨ds[p], List.getElem_mem hp, pIx_l (M.atI_nat (List.getElem?_eq_getElem hp))⟩
theorem div_small {c j : Int} (h0 : 0 < j) (h1 : j < 2 ^ 60) : CDivW c j := wide_div (b := 60) h0 (by omega) (by decide) (by decide)
theorem names_ok (ds : List Int) (hd : ∀ d ∈ ds, 0 ≤ d ∧ d < 1000000000) (hl : ds.length ≤ 1000) : ∃ ns : List Int, f__law_names [aL ds] = vl (aL ns) ∧ ns.length = ds.length ∧ ns.Nodup ∧ ∀ n ∈ ns, 0 ≤ n := by
  have hsz := sizeLine_eq
  have key : ∃ x, f__law_names [aL ds] = vl x ∧ ∃ ns : List Int, x = aL ns ∧ ns.length = ds.length ∧ ns.Nodup ∧ ∀ n ∈ ns, 0 ≤ n := by
    unfold f__law_names t__law_names
    refine run_some rfl ?_
    refine wp_step (τ' := [.st (aL ds), .ow [], .no, .no]) (by te []) ?_
    refine wp_step (τ' := [.st (aL ds), .ow [], .st (aI (-1)), .no]) (by te [pNeg_i]) ?_
    refine wp_for (ds := dints ds) (fun i τ => ∃ (last : Int) (fs : List Int) (s3 : Sl), τ = [.st (aL ds), .ow (dints fs), .st (aI last), s3] ∧ fs.length = i ∧ fs.Pairwise (· < ·) ∧ (∀ f ∈ fs, 0 ≤ f ∧ f ≤ last) ∧ -1 ≤ last) rfl ⟨-1, [], .no, rfl, rfl, .nil, by simp, by decide⟩ ?_ ?_
    · rintro i d τ hi ⟨last, fs, s3, rfl, h1, h2, h3, h4⟩
      obtain ⟨hil, e⟩ := List.getElem?_eq_some_iff.mp hi
      rw [List.getElem_map] at e
      have hil' : i < ds.length := by simpa using hil
      generalize hz : ds[i]'hil' = z at e
      have hz' := hd z (by rw [← hz]; exact List.getElem_mem _)
      subst e
      refine ⟨rfl, ?_⟩
      obtain ⟨x, hx, e⟩ := pIx_mem (ds := [.int 0, .int 0, .int (z / 4 % 3), .int z]) (i := z % 4) (by omega) (by simp; omega)
      have hx2 : ∃ v : Int, x = .int v ∧ 0 ≤ v := by
        simp only [List.mem_cons, List.mem_nil_iff, or_false] at hx
        rcases hx with rfl | rfl | rfl | rfl
        · exact ⟨_, rfl, by decide⟩
        · exact ⟨_, rfl, by decide⟩
        · exact ⟨_, rfl, by omega⟩
        · exact ⟨_, rfl, hz'.1⟩
      obtain ⟨v, rfl, hv⟩ := hx2
      refine wp_step (τ' := [.st (aL ds), .ow (dints fs), .st (aI (last + 1 + v)), .st (aI z)]) (by te [pMod_i (show (0 : Int) < 3 by decide), pMod_i (show (0 : Int) < 4 by decide), pDiv_i (div_small (c := z) (show (0 : Int) < 4 by decide) (by decide)), e]) ?_
      have hfs : (dints fs).length < sizeLine := by rw [List.length_map]; omega
      refine wp_step (τ' := [.st (aL ds), .ow (dints (fs ++ [last + 1 + v])), .st (aI (last + 1 + v)), .st (aI z)]) (by te [hfs, dints_snoc]) ?_
      refine wp_nil ⟨.inl rfl, _, _, _, rfl, by simp [h1], ?_, ?_, by omega⟩
      · rw [List.pairwise_append]
        exact ⟨h2, by simp, fun a ha b hb => by
          have := h3 a ha
          have : b = last + 1 + v := by simpa using hb
          omega⟩
      · intro f hf
        rcases List.mem_append.mp hf with q | q
        · have := h3 f q; omega
        · have : f = last + 1 + v := by simpa using q
          omega
    · rintro τ ⟨last, fs, s3, rfl, h1, h2, h3, h4⟩
      refine wp_of (by te []; rfl) ⟨_, rfl, fs, rfl, by simpa using h1, h2.imp fun h => Int.ne_of_lt h, fun n hn => (h3 n hn).1⟩
  obtain ⟨x, h1, ns, rfl, h2⟩ := key
  exact ⟨ns, h1, h2⟩
theorem cutD_take {xs : List PyData} {m : Nat} (h : m ≤ xs.length) : M.cutD xs none (some (m : Int)) = xs.take m := by
  unfold M.cutD HT.sIx
  simp only [List.drop_zero, Nat.sub_zero]
  rw [if_neg (by omega), Int.toNat_natCast, Nat.min_eq_left h]
theorem cutD_drop {xs : List PyData} {m : Nat} (h : m ≤ xs.length) : M.cutD xs (some (m : Int)) none = xs.drop m := by
  unfold M.cutD HT.sIx
  simp only []
  rw [if_neg (by omega), Int.toNat_natCast, Nat.min_eq_left h, List.take_of_length_le (by simp)]
theorem ins_perm (fs : List Int) (j : Nat) (n : Int) : (fs.take j ++ [n] ++ fs.drop j).Perm (fs ++ [n]) := by
  have h1 : (fs.take j ++ [n] ++ fs.drop j).Perm (n :: (fs.take j ++ fs.drop j)) := by
    rw [List.append_assoc]
    exact List.perm_middle
  rw [List.take_append_drop] at h1
  exact h1.trans (List.perm_append_singleton n fs).symm
theorem shuffled_ok (ns ds : List Int) (hd : ∀ d ∈ ds, 0 ≤ d ∧ d < 1000000000) (hl : ns.length ≤ ds.length) (hn : ns.length ≤ 1000) : ∃ ms : List Int, f__law_shuffled [aL ns, aL ds] = vl (aL ms) ∧ ms.Perm ns := by
  have hsz := sizeLine_eq
  have key : ∃ x, f__law_shuffled [aL ns, aL ds] = vl x ∧ ∃ ms : List Int, x = aL ms ∧ ms.Perm ns := by
    unfold f__law_shuffled t__law_shuffled
    refine run_some rfl ?_
    refine wp_step (τ' := [.st (aL ns), .st (aL ds), .ow [], .no, .no]) (by te []) ?_
    refine wp_for (ds := ((dints ns).zip (dints ds)).map fun p => PyData.tuple [p.1, p.2]) (fun i τ => ∃ (fs : List Int) (s3 s4 : Sl), τ = [.st (aL ns), .st (aL ds), .ow (dints fs), s3, s4] ∧ fs.length = i ∧ fs.Perm (ns.take i)) rfl ⟨[], .no, .no, rfl, rfl, by simp⟩ ?_ ?_
    · rintro i d τ hi ⟨fs, s3, s4, rfl, h1, h2⟩
      rw [List.getElem?_map, Option.map_eq_some_iff] at hi
      obtain ⟨⟨p, q⟩, hz, rfl⟩ := hi
      rw [List.getElem?_zip_eq_some, List.getElem?_map, List.getElem?_map] at hz
      obtain ⟨⟨n, hn1, rfl⟩, ⟨z, hz1, rfl⟩⟩ := And.intro (Option.map_eq_some_iff.mp hz.1) (Option.map_eq_some_iff.mp hz.2)
      have hz' := hd z (List.mem_of_getElem? hz1)
      have hin : i < ns.length := (List.getElem?_eq_some_iff.mp hn1).1
      refine ⟨rfl, ?_⟩
      have hpos : (0 : Int) < (fs.length : Int) + 1 := by omega
      have hmod := Int.emod_nonneg z (Int.ne_of_gt hpos)
      have hmod2 := Int.emod_lt_of_pos z hpos
      obtain ⟨j, hj⟩ := Int.eq_ofNat_of_zero_le hmod
      have hins : (dints fs).length < sizeLine ∧ 0 ≤ (j : Int) ∧ (j : Int) < 2 ^ 63 := by rw [List.length_map]; omega
      have es : sIns 2 (e2 pMod (eVar 4) (e2 pAdd (eLenO 2) (eC (aI 1)))) (eVar 3) [.st (aL ns), .st (aL ds), .ow (dints fs), .st (aI n), .st (aI z)] = some (.nx, [.st (aL ns), .st (aL ds), .ow (dints (fs.take j ++ [n] ++ fs.drop j)), .st (aI n), .st (aI z)]) := by
        rw [sIns_a]
        te [List.length_map, pMod_i hpos]
        rw [hj, if_pos (by rw [List.length_map] at hins; exact hins), Int.toNat_natCast]
        simp [dints, List.map_take, List.map_drop]
      refine wp_step es (wp_nil ⟨.inl rfl, _, _, _, rfl, ?_, ?_⟩)
      · rw [(ins_perm fs j n).length_eq]; simp [h1]
      · rw [List.take_add_one, hn1]
        exact (ins_perm fs j n).trans (h2.append_right _)
    · rintro τ ⟨fs, s3, s4, rfl, h1, h2⟩
      refine wp_of (by te []; rfl) ⟨_, rfl, fs, rfl, ?_⟩
      rw [List.length_map, List.length_zip, List.length_map, List.length_map, Nat.min_eq_left hl, List.take_length] at h2
      exact h2
  obtain ⟨x, h1, ns, rfl, h2⟩ := key
  exact ⟨ns, h1, h2⟩
end KX

set_option linter.all false
set_option maxRecDepth 100000
set_option maxHeartbeats 1000000
namespace KX
open PySem PySem.Spec PyProof.Rows L2 M
theorem dints_erase : ∀ (l : List Int) (k : Nat), (dints l).eraseIdx k = dints (l.eraseIdx k)
  | [], _ => rfl
  | _ :: _, 0 => rfl
  | a :: r, k + 1 => by
    show PyData.int a :: (dints r).eraseIdx k = PyData.int a :: dints (r.eraseIdx k)
    rw [dints_erase r k]
theorem cons_erase_perm : ∀ (l : List Int) (k : Nat) (h : k < l.length), (l[k] :: l.eraseIdx k).Perm l
  | a :: r, 0, _ => .refl _
  | a :: r, k + 1, h => by
    have h' : k < r.length := by simpa using h
    exact (List.Perm.swap a r[k] _).trans ((cons_erase_perm r k h').cons a)
theorem fallen_ok (ns ds : List Int) (hd : ∀ d ∈ ds, 0 ≤ d ∧ d < 1000000000) (hl : ns.length ≤ ds.length) (hn : ns.length ≤ 1000) : ∃ ms : List Int, f__law_fallen [aL ns, aL ds] = vl (aL ms) ∧ ms.Perm ns := by
  have hsz := sizeLine_eq
  have key : ∃ x, f__law_fallen [aL ns, aL ds] = vl x ∧ ∃ ms : List Int, x = aL ms ∧ ms.Perm ns := by
    unfold f__law_fallen t__law_fallen
    refine run_some rfl ?_
    refine wp_step (τ' := [.st (aL ns), .st (aL ds), .ow (dints ns), .no, .no]) (by te [show fList [aL ns] = some (aL ns) from rfl]) ?_
    refine wp_step (τ' := [.st (aL ns), .st (aL ds), .ow (dints ns), .ow [], .no]) (by te []) ?_
    refine wp_for (ds := (dints ds).take ns.length) (fun i τ => ∃ (lf fs : List Int) (s4 : Sl), τ = [.st (aL ns), .st (aL ds), .ow (dints lf), .ow (dints fs), s4] ∧ fs.length = i ∧ (lf ++ fs).Perm ns) (by te [List.length_map]; rw [cutD_take (by simpa using hl)]) ⟨ns, [], .no, rfl, rfl, by simp⟩ ?_ ?_
    · rintro i d τ hi ⟨lf, fs, s4, rfl, h1, h2⟩
      have hi2 : i < ns.length := by
        have := (List.getElem?_eq_some_iff.mp hi).1
        simp at this; omega
      rw [List.getElem?_take_of_lt hi2, List.getElem?_map, Option.map_eq_some_iff] at hi
      obtain ⟨z, hz1, rfl⟩ := hi
      have hz' := hd z (List.mem_of_getElem? hz1)
      refine ⟨rfl, ?_⟩
      have hlen := h2.length_eq
      rw [List.length_append] at hlen
      have hlf : 0 < lf.length := by omega
      obtain ⟨x, hx, e⟩ := pIx_mem (ds := [.int 0, .int (-1)]) (i := z % 2) (by omega) (by simp; omega)
      have hx2 : ∃ (v : Int) (k : Nat), x = .int v ∧ (-(2 ^ 63) ≤ v ∧ v < 2 ^ 63) ∧ seqIndex? v (dints lf).length = some k ∧ k < lf.length := by
        simp only [List.mem_cons, List.mem_nil_iff, or_false] at hx
        rcases hx with rfl | rfl
        · refine ⟨0, 0, rfl, by decide, ?_, hlf⟩
          unfold seqIndex?
          simp [hlf]
        · refine ⟨-1, lf.length - 1, rfl, by decide, ?_, by omega⟩
          unfold seqIndex?
          rw [List.length_map]
          simp only [show (-1 : Int) < 0 by decide, if_true]
          rw [if_pos (by simp; omega)]
          congr 1; omega
      obtain ⟨v, k, rfl, hv, hk, hkl⟩ := hx2
      have hg : (dints lf)[k]? = some (.int lf[k]) := by rw [List.getElem?_map, List.getElem?_eq_getElem hkl]; rfl
      have hfs : (dints fs).length < sizeLine := by rw [List.length_map]; omega
      have es : sAppPop 3 2 (e2 pIx (eF fLst (aCons (eC (aI 0)) (aCons (e1 pNeg (eC (aI 1))) aNil))) (e2 pMod (eVar 4) (eC (aI 2)))) [.st (aL ns), .st (aL ds), .ow (dints lf), .ow (dints fs), .st (aI z)] = some (.nx, [.st (aL ns), .st (aL ds), .ow (dints (lf.eraseIdx k)), .ow (dints (fs ++ [lf[k]])), .st (aI z)]) := by
        rw [sAppPop_a]
        te [pMod_i (show (0 : Int) < 2 by decide), pNeg_i, e]
        rw [if_pos hv, hk]
        simp only []
        rw [hg]
        simp only [List.set_cons_zero, List.set_cons_succ, List.getElem?_cons_zero, List.getElem?_cons_succ, if_pos hfs, dints_snoc, dints_erase]
      refine wp_step es (wp_nil ⟨.inl rfl, _, _, _, rfl, by simp [h1], ?_⟩)
      have hp := cons_erase_perm lf k hkl
      have h3 : (lf.eraseIdx k ++ (fs ++ [lf[k]])).Perm (lf ++ fs) := by
        rw [← List.append_assoc]
        refine (List.perm_append_singleton _ _).trans ?_
        rw [← List.cons_append]
        exact hp.append_right _
      exact h3.trans h2
    · rintro τ ⟨lf, fs, s4, rfl, h1, h2⟩
      refine wp_of (by te [show ∀ l : List Int, pRev (aL l) = some (.d (.list (dints l).reverse)) from fun _ => rfl]; rfl) ⟨_, rfl, fs.reverse, by simp [dints, List.map_reverse], ?_⟩
      have hlen := h2.length_eq
      rw [List.length_append] at hlen
      rw [List.length_take, List.length_map, Nat.min_eq_left hl] at h1
      have : lf = [] := List.length_eq_zero_iff.mp (by omega)
      subst this
      exact (List.reverse_perm _).trans h2
  obtain ⟨x, h1, ns, rfl, h2⟩ := key
  exact ⟨ns, h1, h2⟩
theorem line_ok (ns : List Int) (j m : Nat) (hj : j ≤ 1000000) (hm : m ≤ 400) (hb : ∀ z ∈ ns, Builtin.Int.intBits z ≤ 1048576) : ∃ ls : List Int, f__law_line [.sc ns, aI j, aI m] = vl (aL ls) ∧ ls.length = m ∧ ls.Nodup ∧ ∀ n ∈ ls, 0 ≤ n := by
  obtain ⟨ds, e1, h1, h2⟩ := draws_ok ns j (2 * m) hj (by omega) hb
  have ht : ∀ d ∈ ds.take m, 0 ≤ d ∧ d < 1000000000 := fun d hd => h2 d (List.mem_of_mem_take hd)
  have hr : ∀ d ∈ ds.drop m, 0 ≤ d ∧ d < 1000000000 := fun d hd => h2 d (List.mem_of_mem_drop hd)
  have lt : (ds.take m).length = m := by rw [List.length_take]; omega
  obtain ⟨nm, e2, h3, h4, h5⟩ := names_ok (ds.take m) ht (by omega)
  obtain ⟨ls, e3, h6⟩ := shuffled_ok nm (ds.drop m) hr (by rw [h3, lt, List.length_drop]; omega) (by omega)
  refine ⟨ls, ?_, by rw [h6.length_eq, h3, lt], h6.nodup_iff.mpr h4, fun n hn => h5 n (h6.mem_iff.mp hn)⟩
  unfold f__law_line t__law_line
  refine run_eq rfl ?_
  have em : pMul (aI 2) (aI m) = some (aI ((2 * m : Nat) : Int)) := by rw [pMul_i (mulW 2 20 (by decide) (by omega))]; congr 2
  have c1 : M.cutD (dints ds) none (some (m : Int)) = dints (ds.take m) := by rw [cutD_take (by rw [List.length_map]; omega), ← List.map_take]
  have c2 : M.cutD (dints ds) (some (m : Int)) none = dints (ds.drop m) := by rw [cutD_drop (by rw [List.length_map]; omega), ← List.map_drop]
  refine wp_step (τ' := [.st (.sc ns), .st (aI j), .st (aI m), .st (aL ds)]) (by te [em, e1]) ?_
  exact wp_ret (by te [c1, c2, e2, e3]) rfl
end KX

set_option linter.all false
set_option maxRecDepth 100000
set_option maxHeartbeats 1000000
namespace KX
open PySem PySem.Spec PyProof.Rows L2 M
abbrev dLs (rs : List (List Int)) : List PyData := rs.map dL
theorem dLs_snoc (rs : List (List Int)) (r : List Int) : dLs rs ++ [.list (dints r)] = dLs (rs ++ [r]) := by simp [dLs]
theorem wp_if {c : EvB} {a b u : EvS} {τ : List Sl} {Q : Out → List Sl → Prop} {k : Bool} (e : c τ = vl k) (ht : k = true → Wp a τ fun o τ' => o = .nx ∧ Wp u τ' Q) (hf : k = false → Wp b τ fun o τ' => o = .nx ∧ Wp u τ' Q) : Wp (sSeq (sIf c a b) u) τ Q := by
  cases k
  · exact wp_iff e (hf rfl)
  · exact wp_ift e (ht rfl)
theorem folk_ok (ns : List Int) (j hands : Nat) (line : List Int) (fr : Int) (hj : j ≤ 1000) (hm : hands ≤ 100) (hl : line.length ≤ 100) (hb : ∀ z ∈ ns, Builtin.Int.intBits z ≤ 1048576) : ∃ rs : List (List Int), f__law_folk [.sc ns, aI j, aL line, aI hands, aI fr] = vl (aLL rs) ∧ rs.length = hands ∧ ∀ r ∈ rs, r.Perm line := by
  have hsz := sizeLine_eq
  have key : ∃ x, f__law_folk [.sc ns, aI j, aL line, aI hands, aI fr] = vl x ∧ ∃ rs : List (List Int), x = aLL rs ∧ rs.length = hands ∧ ∀ r ∈ rs, r.Perm line := by
    unfold f__law_folk t__law_folk
    refine run_some rfl ?_
    refine wp_step (τ' := [.st (.sc ns), .st (aI j), .st (aL line), .st (aI hands), .st (aI fr), .ow [], .no, .no]) (by te []) ?_
    have lr := rangeD_len 0 hands
    refine wp_for (ds := rangeD 0 hands) (fun i τ => ∃ (rs : List (List Int)) (s6 s7 : Sl), τ = [.st (.sc ns), .st (aI j), .st (aL line), .st (aI hands), .st (aI fr), .ow (dLs rs), s6, s7] ∧ rs.length = i ∧ ∀ r ∈ rs, r.Perm line) (iRg1_of rfl (by omega)) ⟨[], .no, .no, rfl, rfl, by simp⟩ ?_ ?_
    · rintro i d τ hi ⟨rs, s6, s7, rfl, h1, h2⟩
      obtain ⟨him, rfl⟩ := rangeD_get hi
      refine ⟨rfl, ?_⟩
      rw [Int.zero_add]
      obtain ⟨ds, e01, d1, d2⟩ := draws_ok ns (j + i) (line.length + 1) (by omega) (by omega) hb
      have ea : f__law_draws [.sc ns, aI ((j : Int) + (i : Int)), aI ((line.length : Int) + 1)] = vl (aL ds) := by rw [← e01]; congr 3
      obtain ⟨m1, f1, f2⟩ := shuffled_ok line ds d2 (by omega) (by omega)
      obtain ⟨m2, f3, f4⟩ := fallen_ok line ds d2 (by omega) (by omega)
      have hrs : (dLs rs).length < sizeLine := by rw [List.length_map]; omega
      refine wp_step (τ' := [.st (.sc ns), .st (aI j), .st (aL line), .st (aI hands), .st (aI fr), .ow (dLs rs), .st (aI i), .st (aL ds)]) (by te [List.length_map, ea]) ?_
      have hne : 0 < ds.length := by omega
      have ex : pIx (aL ds) (aI (-1)) = some (.d (.int (ds[ds.length - 1]'(by omega)))) := pIx_l (M.atI_last (by rw [List.length_map, List.getElem?_map, List.getElem?_eq_getElem (by omega)]; rfl))
      have ec : ∃ k : Bool, M.tOr (b2 cEq (eVar 6) (eVar 4)) (M.tAnd (b2 cLt (eVar 4) (eC (aI 0))) (b2 cGt (e2 pMod (e2 pIx (eVar 7) (e1 pNeg (eC (aI 1)))) (eC (aI 3))) (eC (aI 0)))) [.st (.sc ns), .st (aI j), .st (aL line), .st (aI hands), .st (aI fr), .ow (dLs rs), .st (aI i), .st (aL ds)] = vl k := by
        by_cases q1 : (i : Int) = fr
        · exact ⟨_, by te [decide_eq_true q1]; rfl⟩
        · by_cases q2 : fr < 0
          · exact ⟨_, by te [decide_eq_false q1, decide_eq_true q2, ex, pMod_i (show (0 : Int) < 3 by decide)]; rfl⟩
          · exact ⟨_, by te [decide_eq_false q1, decide_eq_false q2]; rfl⟩
      obtain ⟨k, ec⟩ := ec
      have fin : ∀ m3 : List Int, m3.Perm line → (∃ rs_1 : List (List Int), ∃ s6 s7, ([.st (.sc ns), .st (aI j), .st (aL line), .st (aI hands), .st (aI fr), .ow (dLs (rs ++ [m3])), .st (aI i), .st (aL ds)] : List Sl) = [.st (.sc ns), .st (aI j), .st (aL line), .st (aI hands), .st (aI fr), .ow (dLs rs_1), s6, s7] ∧ rs_1.length = i + 1 ∧ ∀ r ∈ rs_1, r.Perm line) := fun m3 hp => ⟨_, _, _, rfl, by simp [h1], fun r hr => by
        rcases List.mem_append.mp hr with q | q
        · exact h2 r q
        · have : r = m3 := by simpa using q
          rw [this]; exact hp⟩
      refine wp_if ec (fun _ => wp_step (τ' := [.st (.sc ns), .st (aI j), .st (aL line), .st (aI hands), .st (aI fr), .ow (dLs (rs ++ [m1])), .st (aI i), .st (aL ds)]) (by te [f1, hrs, dLs_snoc]) (wp_nil ⟨rfl, wp_nil ⟨.inl rfl, fin m1 f2⟩⟩))
        (fun _ => wp_step (τ' := [.st (.sc ns), .st (aI j), .st (aL line), .st (aI hands), .st (aI fr), .ow (dLs (rs ++ [m2])), .st (aI i), .st (aL ds)]) (by te [f3, hrs, dLs_snoc]) (wp_nil ⟨rfl, wp_nil ⟨.inl rfl, fin m2 f4⟩⟩))
    · rintro τ ⟨rs, s6, s7, rfl, h1, h2⟩
      exact wp_of (by te []; rfl) ⟨_, rfl, rs, rfl, by rw [h1]; exact lr, h2⟩
  obtain ⟨x, h1, rs, rfl, h2⟩ := key
  exact ⟨rs, h1, h2⟩
theorem exists_map {α β : Type} (f : β → α) : ∀ (l : List α), (∀ x ∈ l, ∃ y, x = f y) → ∃ ys : List β, l = ys.map f
  | [], _ => ⟨[], rfl⟩
  | a :: r, h => by
    obtain ⟨y, rfl⟩ := h a (by simp)
    obtain ⟨ys, rfl⟩ := exists_map f r fun x hx => h x (by simp [hx])
    exact ⟨y :: ys, rfl⟩
theorem weights_ok (ns : List Int) (j m : Nat) (hj : j ≤ 1000) (hm : m ≤ 100) (hb : ∀ z ∈ ns, Builtin.Int.intBits z ≤ 1048576) : ∃ ws : List Int, f__law_weights [.sc ns, aI j, aI m] = vl (aL ws) ∧ ws.length = m ∧ ∀ w ∈ ws, 1 ≤ w ∧ w < 10 ^ 30 := by
  obtain ⟨ds, e01, h1, h2⟩ := draws_ok ns j m (by omega) (by omega) hb
  have p30 : pPow (aI 10) (aI 30) = some (aI (10 ^ 30)) := by
    rw [pPow_i (show CPowW 10 30 from ⟨by decide, by decide +kernel⟩)]; rfl
  let wt : Int → Int := fun z => if z % 4 = 0 then 1 else if z % 4 = 1 then 1 + z / 4 % 9 else if z % 4 = 2 then 1 + z / 4 % 2 else 10 ^ 30 - 1 - z
  refine ⟨ds.map wt, ?_, by simp [h1], ?_⟩
  · unfold f__law_weights t__law_weights
    refine run_eq rfl ?_
    refine wp_step (τ' := [.st (.sc ns), .st (aI j), .st (aI m), .st (aL ds), .no]) (by te [e01]) ?_
    have el := eLc_map (g := g1 4) (it := iL (eVar 3)) (τ := [.st (.sc ns), .st (aI j), .st (aI m), .st (aL ds), .no]) (t := (e2 pIx (eF fLst (aCons (eC (aI 1)) (aCons (e2 pAdd (eC (aI 1)) (e2 pMod (e2 pDiv (eVar 4) (eC (aI 4))) (eC (aI 9)))) (aCons (e2 pAdd (eC (aI 1)) (e2 pMod (e2 pDiv (eVar 4) (eC (aI 4))) (eC (aI 2)))) (aCons (e2 pSub (e2 pSub (e2 pPow (eC (aI 10)) (eC (aI 30))) (eC (aI 1))) (eVar 4)) aNil))))) (e2 pMod (eVar 4) (eC (aI 4)))))
      PyData.int (fun z => .int (wt z)) ds rfl rfl (by omega) fun z hz => ⟨rfl, by
        show _ = _
        have hs : (g1 4).set (PyData.int z) (wipeS [.st (.sc ns), .st (aI j), .st (aI m), .st (aL ds), .no] (g1 4).vs) = [.st (.sc ns), .st (aI j), .st (aI m), .st (aL ds), .st (aI z)] := rfl
        rw [hs]
        have hx : pIx (.d (.list [.int 1, .int (1 + z / 4 % 9), .int (1 + z / 4 % 2), .int (10 ^ 30 - 1 - z)])) (aI (z % 4)) = some (.d (.int (wt z))) := by
          have : z % 4 = 0 ∨ z % 4 = 1 ∨ z % 4 = 2 ∨ z % 4 = 3 := by omega
          rcases this with q | q | q | q <;> (simp only [wt, q]; rfl)
        te [pMod_i (show (0 : Int) < 4 by decide), pMod_i (show (0 : Int) < 9 by decide), pMod_i (show (0 : Int) < 2 by decide), pDiv_i (div_small (c := z) (show (0 : Int) < 4 by decide) (by decide)), p30, hx]⟩
    exact wp_ret el (by simp [dints, List.map_map, Function.comp_def])
  · intro w hw
    obtain ⟨z, hz, rfl⟩ := List.mem_map.mp hw
    have := h2 z hz
    simp only [wt]
    split
    · omega
    · split
      · omega
      · split
        · omega
        · omega
end KX

set_option linter.all false
set_option maxRecDepth 100000
set_option maxHeartbeats 1000000
namespace KX
open PySem PySem.Spec PyProof.Rows L2 M
/-- data of so many levels, no list longer than a thousand -/
def sm : Nat → PyData → Bool
  | _, .none => true
  | _, .bool _ => true
  | _, .int _ => true
  | _, .str x => PyData.strOk x
  | k + 1, .list ds => decide (ds.length ≤ 1000) && ds.all (sm k)
  | k + 1, .tuple ds => decide (ds.length ≤ 1000) && ds.all (sm k)
  | _, _ => false
theorem sm_all {k : Nat} (ih : ∀ d, sm k d = true → PyData.canLay0 d = true ∧ PyData.depth d ≤ k) : ∀ ds : List PyData, ds.all (sm k) = true → PyData.canLayAll0 ds = true ∧ PyData.depthAll ds ≤ k
  | [], _ => by simp [PyData.canLayAll0, PyData.depthAll]
  | d :: ds, h => by
    rw [List.all_cons, Bool.and_eq_true] at h
    have h1 := ih d h.1
    have h2 := sm_all ih ds h.2
    simp only [PyData.canLayAll0, PyData.depthAll, h1.1, h2.1, Bool.and_self, true_and]
    omega
theorem sm_lay : ∀ (k : Nat) (d : PyData), sm k d = true → PyData.canLay0 d = true ∧ PyData.depth d ≤ k
  | k, .none, _ => by simp [PyData.canLay0, PyData.depth]
  | k, .bool _, _ => by simp [PyData.canLay0, PyData.depth]
  | k, .int _, _ => by simp [PyData.canLay0, PyData.depth]
  | k, .str x, h => by
    have h : PyData.strOk x = true := by cases k <;> exact h
    simp [PyData.canLay0, PyData.depth, h]
  | 0, .list _, h => by cases h
  | 0, .tuple _, h => by cases h
  | k + 1, .list ds, h => by
    simp only [sm, Bool.and_eq_true] at h
    have := sm_all (fun d => sm_lay k d) ds h.2
    simp only [PyData.canLay0, PyData.depth]
    exact ⟨this.1, by omega⟩
  | k + 1, .tuple ds, h => by
    simp only [sm, Bool.and_eq_true] at h
    have := sm_all (fun d => sm_lay k d) ds h.2
    simp only [PyData.canLay0, PyData.depth]
    exact ⟨this.1, by omega⟩
  | 0, .dict _, h => by cases h
  | k + 1, .dict _, h => by cases h
theorem sm_shaped {k : Nat} {d : PyData} (hk : k ≤ 64) (h : sm k d = true) : SeqAt.shaped d = true := by
  have := sm_lay k d h
  unfold SeqAt.shaped
  rw [this.1, decide_eq_true (by omega)]; rfl
theorem sm_dL {k : Nat} {ns : List Int} (h : ns.length ≤ 1000) : sm (k + 1) (dL ns) = true := by
  simp only [sm, List.length_map, decide_eq_true h, Bool.true_and, List.all_eq_true]
  intro d hd
  obtain ⟨i, _, rfl⟩ := List.mem_map.mp hd
  cases k <;> rfl

theorem pIx_0 (d : PyData) (r : List PyData) : pIx (.d (.list (d :: r))) (aI 0) = some (.d d) := pIx_l (by have := M.atI_nat (xs := d :: r) (i := 0) rfl; simpa using this)
theorem pIx_1 (d e : PyData) (r : List PyData) : pIx (.d (.list (d :: e :: r))) (aI 1) = some (.d e) := pIx_l (by have := M.atI_nat (xs := d :: e :: r) (i := 1) rfl; simpa using this)
theorem cEqD_same {k : Nat} {d : PyData} (h : sm k d = true) (hk : k ≤ 64) : cEqD d d = some true := by
  have hs := sm_shaped hk h
  unfold cEqD
  rw [if_pos ⟨hs, hs⟩, PySem.SeqAt.eqv_refl d (SeqAt.canLay_of_shaped hs)]
theorem cEq_list (ds es : List PyData) : cEq (.d (.list ds)) (.d (.list es)) = cEqD (.list ds) (.list es) := rfl
/-- lists of lists of ints .. -/
def sl : Nat → PyData → Bool
  | _, .int _ => true
  | k + 1, .list ds => decide (ds.length ≤ 1000) && ds.all (sl k)
  | _, _ => false
theorem sl_sm : ∀ (k : Nat) (d : PyData), sl k d = true → sm k d = true := by
  intro k
  induction k with
  | zero => intro d h; cases d <;> first | (cases h; done) | rfl
  | succ k ih =>
    intro d h
    cases d with
    | list ds =>
      simp only [sl, sm, Bool.and_eq_true, decide_eq_true_eq, List.all_eq_true] at h ⊢
      exact ⟨h.1, fun d hd => ih d (h.2 d hd)⟩
    | _ => first | (cases h; done) | rfl
theorem copied_ok : ∀ (m : Nat) (d : PyData), sl m d = true → r__law_copied (m + 1) [.d d] = vl (.d d) := by
  intro m
  induction m with
  | zero =>
    intro d h
    cases d <;> first | (cases h; done) | rfl
  | succ m ih =>
    intro d h
    cases d with
    | list ds =>
      simp only [sl, Bool.and_eq_true, decide_eq_true_eq, List.all_eq_true] at h
      have el := eLc_map (g := g1 1) (it := iL (eVar 0)) (τ := [.st (.d (.list ds)), .no]) (t := eCall (r__law_copied (m + 1)) (aCons (eVar 1) aNil)) id id ds (by rw [List.map_id]; rfl) rfl h.1 fun d hd => ⟨rfl, ih d (h.2 d hd)⟩
      rw [List.map_id] at el
      show runF 1 1 (t__law_copied (r__law_copied (m + 1))) _ = _
      unfold t__law_copied
      refine run_eq rfl (wp_if0 (by te []) (wp_ifr (o := .rt (.d (.list ds))) (τ' := [.st (.d (.list ds)), .no]) (by te []) (by simp) ?_ rfl))
      te [el]
    | _ => first | (cases h; done) | rfl
theorem sl_dL {ns : List Int} {k : Nat} (h : ns.length ≤ 1000) : sl (k + 1) (dL ns) = true := by
  simp only [sl, List.length_map, decide_eq_true h, Bool.true_and, List.all_eq_true]
  intro d hd
  obtain ⟨i, _, rfl⟩ := List.mem_map.mp hd
  cases k <;> rfl
theorem sl_dLL {rs : List (List Int)} {k : Nat} (h1 : rs.length ≤ 1000) (h : ∀ r ∈ rs, r.length ≤ 1000) : sl (k + 2) (dLL rs) = true := by
  simp only [sl, List.length_map, decide_eq_true h1, Bool.true_and, List.all_eq_true]
  intro d hd
  obtain ⟨r, hr, rfl⟩ := List.mem_map.mp hd
  exact sl_dL (h r hr)
theorem sm_dLL {rs : List (List Int)} {k : Nat} (h1 : rs.length ≤ 1000) (h : ∀ r ∈ rs, r.length ≤ 1000) : sm (k + 2) (dLL rs) = true := by
  simp only [sm, List.length_map, decide_eq_true h1, Bool.true_and, List.all_eq_true]
  intro d hd
  obtain ⟨r, hr, rfl⟩ := List.mem_map.mp hd
  exact sm_dL (h r hr)
theorem same_ok {a b : List Int} (h : a.Perm b) : f_have_same_names [aL a, aL b] = vl (aB true) := by
  have e : srtI a = srtI b := srtI_uniq ((srtI_perm a).trans h) (srtI_pw a)
  have s1 : ∀ l : List Int, fSorted [aL l] = some (aL (srtI l)) := fun l => by unfold fSorted; simp only [intsOf_d]
  unfold f_have_same_names t_have_same_names
  refine run_eq rfl (wp_ret ?_ rfl)
  te [s1, e, decide_true]
theorem isfolk_ok {rs : List (List Int)} {line : List Int} (h1 : 1 ≤ rs.length) (h2 : rs.length ≤ 20) (hr : ∀ r ∈ rs, r.Perm line) (l1 : 1 ≤ line.length) (l2 : line.length ≤ 10) (l3 : ∀ i ∈ line, 0 ≤ i) (nd : line.Nodup) : f_is_folk [aLL rs] = vl (aB true) := by
  have rk : ∀ r ∈ rs, f_is_ranking [aL r] = vl (aB true) := fun r h => ranking_ok (by rw [(hr r h).length_eq]; exact l1) (by rw [(hr r h).length_eq]; exact l2) (fun i hi => l3 i ((hr r h).mem_iff.mp hi)) ((hr r h).nodup_iff.mpr nd)
  have e1 : eGen (g1 1) (iL (eVar 0)) M.tYes (eCall f_is_ranking (aCons (eVar 1) aNil)) cAll [.st (aLL rs), .no] = vl (aB (rs.all fun _ => true)) := eGen_all dL _ rs rfl rfl fun r h => ⟨rfl, rk r h⟩
  obtain ⟨r0, rt, rfl⟩ : ∃ r0 rt, rs = r0 :: rt := by cases rs with | nil => simp at h1 | cons a b => exact ⟨a, b, rfl⟩
  have x0 : pIx (aLL (r0 :: rt)) (aI 0) = some (aL r0) := pIx_0 _ _
  have e3 : eGen (g1 1) (iL (eVar 0)) M.tYes (eCall f_have_same_names (aCons (eVar 1) (aCons (e2 pIx (eVar 0) (eC (aI 0))) aNil))) cAll [.st (aLL (r0 :: rt)), .no] = vl (aB ((r0 :: rt).all fun _ => true)) := eGen_all dL _ _ rfl rfl fun r h => ⟨rfl, by
    have hs : (g1 1).set (dL r) (wipeS [.st (aLL (r0 :: rt)), .no] (g1 1).vs) = [.st (aLL (r0 :: rt)), .st (aL r)] := rfl
    rw [hs]
    te [x0, same_ok ((hr r h).trans (hr r0 (by simp)).symm)]⟩
  rw [List.all_eq_true.mpr (fun _ _ => rfl)] at e1 e3
  have h4 : (1 : Int) ≤ ((r0 :: rt).length : Int) := by omega
  have h5 : ((r0 :: rt).length : Int) ≤ 20 := by omega
  unfold f_is_folk t_is_folk
  refine run_eq rfl (wp_if0 (by te [List.length_map]; simp only [List.length_cons] at h4 h5; simp only [if_pos h4, decide_eq_true h5]; rfl) (wp_if0 (by te [e1]) (wp_ret e3 rfl)))
theorem checkfolk_ok {rs : List (List Int)} (h : f_is_folk [aLL rs] = vl (aB true)) : f_check_folk [aLL rs] = vl aN := by
  unfold f_check_folk t_check_folk
  refine run_nx rfl (wp_if0 (by te [h]) (wp_nil rfl))
theorem arew_ok {ws : List Int} (hw : ∀ w ∈ ws, 1 ≤ w) : f_are_weights [aL ws, aI ws.length] = vl (aB true) := by
  have e : eGen (g1 2) (iL (eVar 0)) M.tYes (vAnd (eCall f_is_whole (aCons (eVar 2) aNil)) (e2 (pB cGe) (eVar 2) (eC (aI 1)))) cAll [.st (aL ws), .st (aI ws.length), .no] = vl (aB (ws.all fun w => decide (1 ≤ w))) := eGen_all PyData.int _ ws rfl rfl fun w h => ⟨rfl, by
    have hs : (g1 2).set (PyData.int w) (wipeS [.st (aL ws), .st (aI ws.length), .no] (g1 2).vs) = [.st (aL ws), .st (aI ws.length), .st (aI w)] := rfl
    rw [hs]
    te [whole_i]⟩
  rw [List.all_eq_true.mpr (fun w h => decide_eq_true (hw w h))] at e
  unfold f_are_weights t_are_weights
  exact run_eq rfl (wp_if0 (by te [List.length_map, decide_true]) (wp_ret e rfl))
theorem checkw_ok {rs : List (List Int)} {ws : List Int} (h : f_is_folk [aLL rs] = vl (aB true)) (hl : ws.length = rs.length) (hw : ∀ w ∈ ws, 1 ≤ w) : f_check_weights [aLL rs, aL ws] = vl aN := by
  have e := arew_ok hw
  rw [hl] at e
  unfold f_check_weights t_check_weights
  refine run_nx rfl (wp_step (τ' := [.st (aLL rs), .st (aL ws)]) (by te [checkfolk_ok h]) (wp_if0 (by te [List.length_map, e]) (wp_nil rfl)))
end KX

set_option linter.all false
set_option maxRecDepth 100000
set_option maxHeartbeats 1000000
namespace KX
open PySem PySem.Spec PyProof.Rows L2 M
theorem eIndex_of {t u : Ev} {τ : List Sl} {ns : List Int} {i : Int} (h1 : t τ = vl (aL ns)) (h2 : u τ = vl (aI i)) (hi : i ∈ ns) : eIndex t u τ = vl (aI (ns.idxOf i : Nat)) := by
  rw [eIndex_a, h1, bnd_vl, asIs_l, lif_some, bnd_vl, h2, bnd_vl, asI_i, lif_some, bnd_vl, if_pos hi]
theorem ahead_ok {r : List Int} {a b : Int} (ha : a ∈ r) (hb : b ∈ r) : f_is_ahead [aL r, aI a, aI b] = vl (aB (decide ((r.idxOf a : Int) < (r.idxOf b : Int)))) := by
  unfold f_is_ahead t_is_ahead
  have f1 := eIndex_of (t := eVar 0) (u := eVar 1) (τ := [.st (aL r), .st (aI a), .st (aI b)]) rfl rfl ha
  have f2 := eIndex_of (t := eVar 0) (u := eVar 2) (τ := [.st (aL r), .st (aI a), .st (aI b)]) rfl rfl hb
  exact run_eq rfl (wp_ret (by show M.e2 _ _ _ [Sl.st (aL r), Sl.st (aI a), Sl.st (aI b)] = _; rw [e2_a, f1, f2]; te []) rfl)
def mgn (a b : Int) (p : List Int × Int) : Int := if (p.1.idxOf a : Int) < (p.1.idxOf b : Int) then p.2 else -p.2
abbrev zt (p : List Int × Int) : PyData := .tuple [dL p.1, .int p.2]
theorem zip_zt : ∀ (rs : List (List Int)) (ws : List Int), ((rs.map dL).zip (dints ws)).map (fun p => PyData.tuple [p.1, p.2]) = (rs.zip ws).map zt
  | [], _ => by simp
  | _ :: _, [] => by simp
  | r :: rs, w :: ws => by
    show PyData.tuple [dL r, .int w] :: (((rs.map dL).zip (dints ws)).map fun p => PyData.tuple [p.1, p.2]) = zt (r, w) :: (rs.zip ws).map zt
    rw [zip_zt rs ws]
theorem cmargin_ok {rs : List (List Int)} {ws : List Int} {a b : Int} (h : ∀ r ∈ rs, a ∈ r ∧ b ∈ r) : f_count_margin [aLL rs, aL ws, aI a, aI b] = vl (aI ((rs.zip ws).map (mgn a b)).sum) := by
  have e := eGen_sum (g := g2 4 5) (it := iZip (eVar 0) (eVar 1)) (τ := [.st (aLL rs), .st (aL ws), .st (aI a), .st (aI b), .no, .no]) (t := eIf (b1 asB (eCall f_is_ahead (aCons (eVar 4) (aCons (eVar 2) (aCons (eVar 3) aNil))))) (eVar 5) (e1 pNeg (eVar 5)))
    zt (mgn a b) (rs.zip ws) (by te [zip_zt]) rfl fun p hp => ⟨rfl, by
      obtain ⟨r, w⟩ := p
      have hr := h r (List.of_mem_zip hp).1
      have hs : (g2 4 5).set (zt (r, w)) (wipeS [.st (aLL rs), .st (aL ws), .st (aI a), .st (aI b), .no, .no] (g2 4 5).vs) = [.st (aLL rs), .st (aL ws), .st (aI a), .st (aI b), .st (aL r), .st (aI w)] := rfl
      rw [hs]
      unfold mgn
      by_cases q : (r.idxOf a : Int) < (r.idxOf b : Int)
      · te [ahead_ok hr.1 hr.2, decide_eq_true q, q, decide_true]
      · te [ahead_ok hr.1 hr.2, decide_eq_false q, q, pNeg_i, decide_false]⟩
  unfold f_count_margin t_count_margin
  exact run_eq rfl (wp_ret e rfl)
theorem cIn_i (i : Int) (ns : List Int) : cIn (aI i) (aL ns) = some (decide (i ∈ ns)) := by
  have hs : SeqAt.shaped (.int i) = true := by rfl
  show (if SeqAt.shaped (.int i) = true ∧ SeqAt.shaped (dL ns) = true then some ((dints ns).any fun z => PyData.eqv z (.int i)) else none) = _
  rw [if_pos ⟨hs, shaped_dL ns⟩]
  congr 1
  rw [List.any_map, Bool.eq_iff_iff, List.any_eq_true]
  simp only [Function.comp_apply, decide_eq_true_eq]
  constructor
  · rintro ⟨x, hx, e⟩
    have : x = i := by simpa [PyData.eqv] using e
    rw [← this]; exact hx
  · intro h
    exact ⟨i, h, by simp [PyData.eqv]⟩
theorem cNi_i (i : Int) (ns : List Int) : cNi (aI i) (aL ns) = some (!decide (i ∈ ns)) := by unfold cNi; rw [cIn_i]; rfl
theorem two_ok (r : List Int) (a b : Int) : f_are_two_names [aL r, aI a, aI b] = vl (aB (!decide (a = b) && (decide (a ∈ r) && decide (b ∈ r)))) := by
  have e : f_are_names_of [aL r, aL [a, b]] = vl (aB (decide (a ∈ r) && decide (b ∈ r))) := by
    have e := eGen_all (g := g1 2) (it := iL (eVar 1)) (τ := [.st (aL r), .st (aL [a, b]), .no]) (t := vAnd (eCall f_is_whole (aCons (eVar 2) aNil)) (e2 (pB cIn) (eVar 2) (eVar 0))) PyData.int (fun x => decide (x ∈ r)) [a, b] rfl rfl fun x hx => ⟨rfl, by
      have hs : (g1 2).set (PyData.int x) (wipeS [.st (aL r), .st (aL [a, b]), .no] (g1 2).vs) = [.st (aL r), .st (aL [a, b]), .st (aI x)] := rfl
      rw [hs]
      te [whole_i, cIn_i]⟩
    unfold f_are_names_of t_are_names_of
    exact run_eq rfl (wp_ret e (by simp))
  unfold f_are_two_names t_are_two_names
  refine run_eq rfl (wp_ret ?_ rfl)
  by_cases q : a = b
  · te [decide_eq_true q]; rfl
  · have e' : f_are_names_of [aL r, .d (.list [.int a, .int b])] = _ := e
    te [decide_eq_false q, e', Bool.true_and]
theorem margin_ok {rs : List (List Int)} {ws line : List Int} {a b : Int} (hc : f_check_weights [aLL rs, aL ws] = vl aN) (h1 : 1 ≤ rs.length) (hr : ∀ r ∈ rs, r.Perm line) (ha : a ∈ line) (hb : b ∈ line) (hab : a ≠ b) : f_margin [aLL rs, aL ws, aI a, aI b] = vl (aI ((rs.zip ws).map (mgn a b)).sum) := by
  obtain ⟨r0, rt, rfl⟩ : ∃ r0 rt, rs = r0 :: rt := by cases rs with | nil => simp at h1 | cons a b => exact ⟨a, b, rfl⟩
  have x0 : pIx (aLL (r0 :: rt)) (aI 0) = some (aL r0) := pIx_0 _ _
  have hp := hr r0 (by simp)
  have t2 : f_are_two_names [aL r0, aI a, aI b] = vl (aB true) := by
    rw [two_ok, decide_eq_false hab, decide_eq_true (hp.mem_iff.mpr ha), decide_eq_true (hp.mem_iff.mpr hb)]; rfl
  unfold f_margin t_margin
  refine run_eq rfl (wp_step (τ' := [.st (aLL (r0 :: rt)), .st (aL ws), .st (aI a), .st (aI b)]) (by te [hc]) (wp_if0 (by te [x0, t2]) (wp_ret (by te [cmargin_ok fun r h => ⟨(hr r h).mem_iff.mpr ha, (hr r h).mem_iff.mpr hb⟩]) rfl)))
theorem margin_no {rs : List (List Int)} {ws line : List Int} {a b : Int} (hc : f_check_weights [aLL rs, aL ws] = vl aN) (h1 : 1 ≤ rs.length) (hr : ∀ r ∈ rs, r.Perm line) (h : a = b ∨ a ∉ line ∨ b ∉ line) : f_margin [aLL rs, aL ws, aI a, aI b] = some (.error "NoNames") := by
  obtain ⟨r0, rt, rfl⟩ : ∃ r0 rt, rs = r0 :: rt := by cases rs with | nil => simp at h1 | cons a b => exact ⟨a, b, rfl⟩
  have x0 : pIx (aLL (r0 :: rt)) (aI 0) = some (aL r0) := pIx_0 _ _
  have hp := hr r0 (by simp)
  have t2 : f_are_two_names [aL r0, aI a, aI b] = vl (aB false) := by
    rw [two_ok]
    rcases h with q | q | q
    · rw [decide_eq_true q]; rfl
    · rw [decide_eq_false (fun z => q (hp.mem_iff.mp z))]; simp
    · rw [decide_eq_false (fun z => q (hp.mem_iff.mp z))]; simp
  unfold f_margin t_margin
  exact run_ex rfl (wp_step (τ' := [.st (aLL (r0 :: rt)), .st (aL ws), .st (aI a), .st (aI b)]) (by te [hc]) (wp_ifr (o := .ex "NoNames") (τ' := [.st (aLL (r0 :: rt)), .st (aL ws), .st (aI a), .st (aI b)]) (by te [x0, t2]) (by simp) rfl rfl))
end KX

set_option linter.all false
set_option maxRecDepth 100000
set_option maxHeartbeats 1000000
namespace KX
open PySem PySem.Spec PyProof.Rows L2 M
theorem idx_ne {r : List Int} {a b : Int} (ha : a ∈ r) (hb : b ∈ r) (h : a ≠ b) : r.idxOf a ≠ r.idxOf b := fun e => h (by
  have h1 := List.getElem_idxOf (List.idxOf_lt_length_of_mem ha)
  have h2 := List.getElem_idxOf (List.idxOf_lt_length_of_mem hb)
  rw [← h1, ← h2]; congr 1)
theorem lead_ok {rs : List (List Int)} {ws : List Int} {a b : Int} (h : ∀ r ∈ rs, a ∈ r ∧ b ∈ r) (hab : a ≠ b) : f__law_lead [aLL rs, aL ws, aI a, aI b] = vl (aI ((rs.zip ws).map (mgn a b)).sum) := by
  unfold f__law_lead t__law_lead
  refine run_eq rfl ?_
  refine wp_step (τ' := [.st (aLL rs), .st (aL ws), .st (aI a), .st (aI b), .st (aI 0), .no, .no]) (by te []) ?_
  refine wp_for (ds := (rs.zip ws).map zt) (fun i τ => ∃ s5 s6, τ = [.st (aLL rs), .st (aL ws), .st (aI a), .st (aI b), .st (aI (((rs.zip ws).take i).map (mgn a b)).sum), s5, s6]) (by te [zip_zt]) ⟨.no, .no, rfl⟩ ?_ ?_
  · rintro i d τ hi ⟨s5, s6, rfl⟩
    rw [List.getElem?_map, Option.map_eq_some_iff] at hi
    obtain ⟨⟨r, w⟩, hz, rfl⟩ := hi
    have hr := h r (List.of_mem_zip (List.mem_of_getElem? hz)).1
    have hne := idx_ne hr.1 hr.2 hab
    refine ⟨rfl, ?_⟩
    generalize hS : (((rs.zip ws).take i).map (mgn a b)).sum = S
    have hsum : (((rs.zip ws).take (i + 1)).map (mgn a b)).sum = S + mgn a b (r, w) := by rw [List.take_add_one, hz, ← hS]; simp
    have hs : (g2 5 6).set (zt (r, w)) [.st (aLL rs), .st (aL ws), .st (aI a), .st (aI b), .st (aI S), s5, s6] = [.st (aLL rs), .st (aL ws), .st (aI a), .st (aI b), .st (aI S), .st (aL r), .st (aI w)] := rfl
    rw [hs]
    have f1 := eIndex_of (t := eVar 5) (u := eVar 2) (τ := [.st (aLL rs), .st (aL ws), .st (aI a), .st (aI b), .st (aI S), .st (aL r), .st (aI w)]) rfl rfl hr.1
    have f2 := eIndex_of (t := eVar 5) (u := eVar 3) (τ := [.st (aLL rs), .st (aL ws), .st (aI a), .st (aI b), .st (aI S), .st (aL r), .st (aI w)]) rfl rfl hr.2
    have hx : ∃ k : Int, fInt [aB (decide ((r.idxOf b : Int) < (r.idxOf a : Int)))] = some (aI k) ∧ pIx (.d (.list [.int w, .int (0 - w)])) (aI k) = some (.d (.int (mgn a b (r, w)))) := by
      unfold mgn
      by_cases q : (r.idxOf a : Int) < (r.idxOf b : Int)
      · refine ⟨0, by rw [decide_eq_false (by omega)]; rfl, ?_⟩
        rw [pIx_0, if_pos q]
      · refine ⟨1, by rw [decide_eq_true (by omega)]; rfl, ?_⟩
        rw [pIx_1, if_neg q, Int.zero_sub]
    obtain ⟨k, hk1, hk2⟩ := hx
    refine wp_step (τ' := [.st (aLL rs), .st (aL ws), .st (aI a), .st (aI b), .st (aI (S + mgn a b (r, w))), .st (aL r), .st (aI w)]) (by
      rw [sAsg_a, e2_a, M.e2_a, eF_a]
      te [eIndex_a, asIs_l, hr.1, hr.2, hk1, hk2]) (wp_nil ⟨.inl rfl, .st (aL r), .st (aI w), by rw [hsum]⟩)
  · rintro τ ⟨s5, s6, rfl⟩
    rw [List.length_map, List.take_length]
    exact wp_ret rfl rfl
theorem isX_a (xc : Str → Addr) {y : Str} (z : Str) (hy : y ∈ xl) : pIsX xc xl z (.ex (xc y) y) = some (aB (decide (y = z))) := if_pos ⟨rfl, hy⟩
theorem isVE_a (xc : Str → Addr) {y : Str} (hy : y ∈ xl) : pIsVE xc xl (.ex (xc y) y) = some (aB true) := if_pos ⟨rfl, hy⟩
theorem pAdd_l (ds es : List PyData) (h : ds.length + es.length ≤ 10000) : pAdd (.d (.list ds)) (.d (.list es)) = some (.d (.list (ds ++ es))) := if_pos (len_sz h)
abbrev nmL : List Str := ["NoBack", "NoFall", "NoFit", "NoFixed", "NoFolk", "NoHand", "NoLine", "NoNames", "NoNumber", "NoPaper", "NoRanking", "NoRow", "NoRule", "NoText", "NoTitle", "NoTops", "NoTree", "NoWeights", "TooGreat"]
theorem namesof_ok (xc : Str → Addr) {y : Str} (hy : y ∈ xl) : f__law_names_of xc [.ex (xc y) y] = vl (.d (.list ((nmL.filter fun z => decide (y = z)).map .str))) := by
  have hx := fun z => isX_a xc z hy
  have el := eLc_ok (g := g2 3 4) (it := iZip (eVar 2) (eVar 1)) (τ := [.st (.ex (xc y) y), .st (.d (.list (nmL.map fun z => .bool (decide (y = z))))), .st (.d (.list (nmL.map .str))), .no, .no]) (c := b1 asTr (eVar 4)) (t := eVar 3)
    (fun z : Str => PyData.tuple [.str z, .bool (decide (y = z))]) (fun z => decide (y = z)) .str nmL (by te []; rfl) rfl (by decide) fun z hz => ⟨rfl, rfl, fun _ => rfl⟩
  unfold f__law_names_of t__law_names_of
  refine run_eq rfl ?_
  refine wp_step (by te [hx]; rfl) ?_
  refine wp_step (by te [hx, pAdd_l]; rfl) ?_
  refine wp_step (by te [hx, pAdd_l]; rfl) ?_
  refine wp_step (by te [hx, pAdd_l]; rfl) ?_
  refine wp_step (by te [hx, pAdd_l]; rfl) ?_
  refine wp_step (by te [hx, pAdd_l]; rfl) ?_
  refine wp_step (by te [hx, pAdd_l]; rfl) ?_
  refine wp_step (by te [hx, pAdd_l]; rfl) ?_
  refine wp_step (by te [hx, pAdd_l]; rfl) ?_
  refine wp_step (by te [hx, pAdd_l]; rfl) ?_
  exact wp_ret el rfl
theorem refused_ok (xc : Str → Addr) {x y z w : PyData} (h : f_margin [.d x, .d y, .d z, .d w] = some (.error "NoNames")) : f__law_refused xc [.d x, .d y, .d z, .d w] = vl (aB true) := by
  have hy : ("NoNames" : Str) ∈ xl := by decide
  have en := namesof_ok xc hy
  have e2 : (nmL.filter fun z => decide (("NoNames" : Str) = z)) = [(("NoNames" : Str))] := by decide
  rw [e2] at en
  have eq : cEq (.d (.list [.str "NoNames"])) (.d (.list [.str "NoNames"])) = some true := cEqD_same (k := 2) (by decide +kernel) (by decide)
  unfold f__law_refused t__law_refused
  refine run_eq rfl ?_
  refine wp_step (τ' := [.st (.d x), .st (.d y), .st (.d z), .st (.d w), .st aN, .no]) (by te []) ?_
  refine wp_step (τ' := [.st (.d x), .st (.d y), .st (.d z), .st (.d w), .st (.ex (xc "NoNames") "NoNames"), .no]) (by
    have hb : sSeq (sExpr (eCall f_margin (aCons (eVar 0) (aCons (eVar 1) (aCons (eVar 2) (aCons (eVar 3) aNil)))))) sNil [.st (.d x), .st (.d y), .st (.d z), .st (.d w), .st aN, .no] = some (.ex "NoNames", [.st (.d x), .st (.d y), .st (.d z), .st (.d w), .st aN, .no]) := by te [h]
    have hno : noOwS [.st (.d x), .st (.d y), .st (.d z), .st (.d w), .st aN, .no] = true := rfl
    rw [sTry_a, if_pos hno, hb]
    simp only [if_pos hy]
    rfl) ?_
  exact wp_ret (by te [isVE_a xc hy, en, eq]) rfl
end KX

set_option linter.all false
set_option maxRecDepth 100000
set_option maxHeartbeats 1000000
namespace KX
open PySem PySem.Spec PyProof.Rows L2 M
theorem pIx_2 (a b c : PyData) (r : List PyData) : pIx (.d (.list (a :: b :: c :: r))) (aI 2) = some (.d c) := pIx_l (by have := M.atI_nat (xs := a :: b :: c :: r) (i := 2) rfl; simpa using this)
theorem pIx_3 (a b c d : PyData) (r : List PyData) : pIx (.d (.list (a :: b :: c :: d :: r))) (aI 3) = some (.d d) := pIx_l (by have := M.atI_nat (xs := a :: b :: c :: d :: r) (i := 3) rfl; simpa using this)
theorem pIx_4 (a b c d e : PyData) (r : List PyData) : pIx (.d (.list (a :: b :: c :: d :: e :: r))) (aI 4) = some (.d e) := pIx_l (by have := M.atI_nat (xs := a :: b :: c :: d :: e :: r) (i := 4) rfl; simpa using this)
def b2i (b : Bool) : Int := if b then 1 else 0
theorem fInt_b (b : Bool) : fInt [aB b] = some (aI (b2i b)) := rfl
theorem pick2 (a b : Int) (q : Bool) : ∃ x, pIx (.d (.list [.int a, .int b])) (aI (b2i q)) = some (.d (.int x)) ∧ (x = a ∨ x = b) := by
  cases q
  · exact ⟨a, pIx_0 _ _, .inl rfl⟩
  · exact ⟨b, pIx_1 _ _ _, .inr rfl⟩
theorem max_ex : ∀ {l : List Int}, l ≠ [] → ∃ m ∈ l, ∀ n ∈ l, n ≤ m
  | [], h => absurd rfl h
  | [a], _ => ⟨a, by simp, by simp⟩
  | a :: b :: r, _ => by
    obtain ⟨m, hm, h⟩ := max_ex (l := b :: r) (by simp)
    by_cases q : a ≤ m
    · exact ⟨m, by simp at hm ⊢; exact .inr hm, fun n hn => by
        rcases List.mem_cons.mp hn with rfl | z
        · exact q
        · exact h n z⟩
    · exact ⟨a, by simp, fun n hn => by
        rcases List.mem_cons.mp hn with rfl | z
        · exact Int.le_refl _
        · have := h n z; omega⟩
theorem max1_ok {l : List Int} (h : l ≠ []) : ∃ m, fMax1 [aL l] = some (aI m) ∧ m ∈ l ∧ ∀ n ∈ l, n ≤ m := by
  obtain ⟨m, hm, hn⟩ := max_ex h
  refine ⟨m, ?_, hm, hn⟩
  show (intsOf (dints l)).bind _ = _
  rw [intsOf_d, Option.bind_some, max_of hm hn]
  rfl
theorem five {l : List Int} (h : l.length = 5) : ∃ a b c d e, l = [a, b, c, d, e] := by
  match l, h with
  | [a, b, c, d, e], _ => exact ⟨a, b, c, d, e, rfl⟩
end KX

set_option linter.all false
set_option maxRecDepth 100000
set_option maxHeartbeats 2000000
namespace KX
open PySem PySem.Spec PyProof.Rows L2 M
theorem law_true (xc : Str → Addr) (ns : List Int) (hb : ∀ z ∈ ns, Builtin.Int.intBits z ≤ 1048576) : f_law xc [.sc ns] = some (.ok (aB true)) := by
  obtain ⟨ds, q1, h1, h2⟩ := draws_ok ns 0 5 (by decide) (by decide) hb
  obtain ⟨d0, d1, d2, d3, d4, rfl⟩ := five h1
  have b0 := h2 d0 (by simp)
  have b1' := h2 d1 (by simp)
  have b2' := h2 d2 (by simp)
  have b3 := h2 d3 (by simp)
  have b4 := h2 d4 (by simp)
  have qq1 : f__law_draws [.sc ns, aI 0, aI 5] = vl (.d (.list [.int d0, .int d1, .int d2, .int d3, .int d4])) := q1
  -- the line
  obtain ⟨x, px, hx⟩ := pick2 (1 + d0 % 7) 10 (decide (d0 / 64 % 8 = 3))
  obtain ⟨m, rfl⟩ : ∃ m : Nat, x = m := Int.eq_ofNat_of_zero_le (by omega)
  have hm1 : 1 ≤ m := by omega
  have hm2 : m ≤ 10 := by omega
  obtain ⟨line, q2, l1, l2, l3⟩ := line_ok ns 1 m (by decide) (by omega) hb
  -- the hands
  obtain ⟨y, py, hy⟩ := pick2 (1 + d1 % 9) 20 (decide (d1 / 64 % 8 = 3))
  obtain ⟨hands, rfl⟩ : ∃ m : Nat, y = m := Int.eq_ofNat_of_zero_le (by omega)
  have hh1 : 1 ≤ hands := by omega
  have hh2 : hands ≤ 20 := by omega
  obtain ⟨fr, pf⟩ : ∃ fr : Int, pIx (.d (.list [.int (-1), .int hands])) (aI (d2 % 2)) = some (.d (.int fr)) := by
    have : d2 % 2 = 0 ∨ d2 % 2 = 1 := by omega
    rcases this with q | q <;> rw [q]
    · exact ⟨_, pIx_0 _ _⟩
    · exact ⟨_, pIx_1 _ _ _⟩
  obtain ⟨rs, q3, r1, r2⟩ := folk_ok ns 3 hands line fr (by decide) (by omega) (by omega) hb
  obtain ⟨ws, q4, w1, w2⟩ := weights_ok ns 2 hands (by decide) (by omega) hb
  have qq2 : f__law_line [.sc ns, aI 1, aI m] = vl (aL line) := q2
  have qq3 : f__law_folk [.sc ns, aI 3, aL line, aI hands, aI fr] = vl (aLL rs) := q3
  have qq4 : f__law_weights [.sc ns, aI 2, aI hands] = vl (aL ws) := q4
  have rl : ∀ r ∈ rs, r.length ≤ 1000 := fun r hr => by rw [(r2 r hr).length_eq]; omega
  have hsl : sl 4 (.list [dLL rs, dL ws]) = true := by
    show (decide (([dLL rs, dL ws] : List PyData).length ≤ 1000) && ([dLL rs, dL ws] : List PyData).all (sl 3)) = true
    simp only [List.all_cons, List.all_nil, sl_dLL (k := 1) (show rs.length ≤ 1000 by omega) rl, sl_dL (k := 2) (show ws.length ≤ 1000 by omega)]
    rfl
  have qq5 : r__law_copied 5 [.d (.list [dLL rs, dL ws])] = vl (.d (.list [dLL rs, dL ws])) := copied_ok 4 _ hsl
  have eqH : cEq (.d (.list [dLL rs, dL ws])) (.d (.list [dLL rs, dL ws])) = some true := cEqD_same (sl_sm 4 _ hsl) (by decide)
  have neH : cNe (.d (.list [dLL rs, dL ws])) (.d (.list [dLL rs, dL ws])) = some false := by unfold cNe; rw [eqH]; rfl
  have isf := isfolk_ok (by omega) (by omega) r2 (by omega) (by omega) l3 l2
  have cw : f_check_weights [aLL rs, aL ws] = vl aN := checkw_ok isf (by omega) fun w hw => (w2 w hw).1
  have hne : line ≠ [] := fun z => by rw [z] at l1; simp at l1; omega
  have x0 : pIx (.d (.list [dLL rs, dL ws])) (aI 0) = some (aLL rs) := pIx_0 _ _
  have x1 : pIx (.d (.list [dLL rs, dL ws])) (aI 1) = some (aL ws) := pIx_1 _ _ _
  -- a name of the line, a gap, one behind all
  have lpos : (0 : Int) < (line.length : Int) := by omega
  obtain ⟨ox, ho, po⟩ := pIx_mem (ds := dints line) (i := d3 % (line.length : Int)) (Int.emod_nonneg _ (by omega)) (by rw [List.length_map]; exact Int.emod_lt_of_pos _ lpos)
  obtain ⟨one, hone, rfl⟩ := List.mem_map.mp ho
  obtain ⟨mx, emx, hmx, hmx2⟩ := max1_ok hne
  obtain ⟨G, hGd⟩ : ∃ G : List Int, G = (line.filter fun n => !decide (n + 1 ∈ line)).map (· + 1) := ⟨_, rfl⟩
  have hG : ∀ g ∈ G, g ∉ line := fun g hg => by
    rw [hGd] at hg
    obtain ⟨n, hn, rfl⟩ := List.mem_map.mp hg
    have := (List.mem_filter.mp hn).2
    simpa using this
  have hGm : mx + 1 ∈ G := by rw [hGd]; exact List.mem_map.mpr ⟨mx, List.mem_filter.mpr ⟨hmx, by
    have : mx + 1 ∉ line := fun z => by have := hmx2 _ z; omega
    simp [this]⟩, rfl⟩
  have hGl : 0 < G.length := List.length_pos_of_mem hGm
  have gpos : (0 : Int) < (G.length : Int) := by omega
  obtain ⟨gx, hg, pg⟩ := pIx_mem (ds := dints G) (i := d4 % (G.length : Int)) (Int.emod_nonneg _ (by omega)) (by rw [List.length_map]; exact Int.emod_lt_of_pos _ gpos)
  obtain ⟨gap, hgap, rfl⟩ := List.mem_map.mp hg
  have hfar : mx + 1 + d4 ∉ line := fun z => by have := hmx2 _ z; omega
  let D : Av := .d (.list [.int d0, .int d1, .int d2, .int d3, .int d4])
  let Hd : Av := .d (.list [dLL rs, dL ws])
  unfold f_law t_law
  refine run_eq rfl ?_
  refine wp_step (τ' := [.st (.sc ns), .st D, .no, .no, .no, .no, .no, .no, .no, .no, .no, .no]) (by te [D, qq1]) ?_
  refine wp_step (τ' := [.st (.sc ns), .st D, .st (aL line), .no, .no, .no, .no, .no, .no, .no, .no, .no]) (by
    te [D, pIx_0, pMod_i (show (0 : Int) < 7 by decide), pMod_i (show (0 : Int) < 8 by decide), pDiv_i (div_small (c := d0) (show (0 : Int) < 64 by decide) (by decide)), fInt_b, px, qq2]) ?_
  refine wp_step (τ' := [.st (.sc ns), .st D, .st (aL line), .st (aI hands), .no, .no, .no, .no, .no, .no, .no, .no]) (by
    te [D, pIx_1, pMod_i (show (0 : Int) < 9 by decide), pMod_i (show (0 : Int) < 8 by decide), pDiv_i (div_small (c := d1) (show (0 : Int) < 64 by decide) (by decide)), fInt_b, py]) ?_
  refine wp_step (τ' := [.st (.sc ns), .st D, .st (aL line), .st (aI hands), .st (aLL rs), .no, .no, .no, .no, .no, .no, .no]) (by
    te [D, pIx_2, pMod_i (show (0 : Int) < 2 by decide), pf, qq3]) ?_
  refine wp_step (τ' := [.st (.sc ns), .st D, .st (aL line), .st (aI hands), .st (aLL rs), .st (aL ws), .no, .no, .no, .no, .no, .no]) (by te [qq4]) ?_
  refine wp_step (τ' := [.st (.sc ns), .st D, .st (aL line), .st (aI hands), .st (aLL rs), .st (aL ws), .st Hd, .no, .no, .no, .no, .no]) (by te [Hd, qq5]) ?_
  refine wp_for (ds := dints line) (fun i τ => ∃ s7 s8 s9, τ = [.st (.sc ns), .st D, .st (aL line), .st (aI hands), .st (aLL rs), .st (aL ws), .st Hd, s7, s8, s9, .no, .no]) rfl ⟨_, _, _, rfl⟩ ?_ ?_
  · rintro i d τ hi ⟨s7, s8, s9, rfl⟩
    rw [List.getElem?_map, Option.map_eq_some_iff] at hi
    obtain ⟨a, ha, rfl⟩ := hi
    have ha := List.mem_of_getElem? ha
    refine ⟨rfl, ?_⟩
    show Wp _ [.st (.sc ns), .st D, .st (aL line), .st (aI hands), .st (aLL rs), .st (aL ws), .st Hd, .st (aI a), s8, s9, .no, .no] _
    refine wp_for' (ds := dints line) (fun i τ => ∃ s8 s9, τ = [.st (.sc ns), .st D, .st (aL line), .st (aI hands), .st (aLL rs), .st (aL ws), .st Hd, .st (aI a), s8, s9, .no, .no]) rfl ⟨_, _, rfl⟩ ?_ ?_
    · rintro i d τ hi ⟨s8, s9, rfl⟩
      rw [List.getElem?_map, Option.map_eq_some_iff] at hi
      obtain ⟨b, hbl, rfl⟩ := hi
      have hbl := List.mem_of_getElem? hbl
      refine ⟨rfl, ?_⟩
      show Wp _ [.st (.sc ns), .st D, .st (aL line), .st (aI hands), .st (aLL rs), .st (aL ws), .st Hd, .st (aI a), .st (aI b), s9, .no, .no] _
      by_cases q : a = b
      · exact wp_if0 (by te [decide_eq_true q]) (wp_nil ⟨.inl rfl, _, _, rfl⟩)
      · have em := margin_ok cw (by omega) r2 ha hbl q
        have el := lead_ok (rs := rs) (ws := ws) (a := a) (b := b) (fun r hr => ⟨(r2 r hr).mem_iff.mpr ha, (r2 r hr).mem_iff.mpr hbl⟩) q
        refine wp_ift (by te [decide_eq_false q]) ?_
        refine wp_step (τ' := [.st (.sc ns), .st D, .st (aL line), .st (aI hands), .st (aLL rs), .st (aL ws), .st Hd, .st (aI a), .st (aI b), .st (aI ((rs.zip ws).map (mgn a b)).sum), .no, .no]) (by te [Hd, x0, x1, em]) ?_
        refine wp_if0 (by te [lwhole_i, el, decide_true]) ?_
        refine wp_if0 (by te [Hd, neH]) ?_
        exact wp_nil ⟨rfl, wp_nil ⟨.inl rfl, _, _, rfl⟩⟩
    · rintro τ ⟨s8, s9, rfl⟩
      exact ⟨.inl rfl, _, _, _, rfl⟩
  rintro τ ⟨s7, s8, s9, rfl⟩
  refine wp_step (τ' := [.st (.sc ns), .st D, .st (aL line), .st (aI hands), .st (aLL rs), .st (aL ws), .st Hd, .st (aI one), s8, s9, .no, .no]) (by
    te [D, pIx_3, List.length_map, pMod_i lpos, po]) ?_
  have eg := eLc_ok (g := g1 11) (it := iL (eVar 2)) (τ := [.st (.sc ns), .st D, .st (aL line), .st (aI hands), .st (aLL rs), .st (aL ws), .st Hd, .st (aI one), s8, s9, .no, .no]) (c := b2 cNi (e2 pAdd (eVar 11) (eC (aI 1))) (eVar 2)) (t := e2 pAdd (eVar 11) (eC (aI 1)))
    PyData.int (fun n => !decide (n + 1 ∈ line)) (fun n => .int (n + 1)) line rfl rfl (by omega) fun n hn => ⟨rfl, by
      have hs : (g1 11).set (PyData.int n) (wipeS [.st (.sc ns), .st D, .st (aL line), .st (aI hands), .st (aLL rs), .st (aL ws), .st Hd, .st (aI one), s8, s9, .no, .no] (g1 11).vs) = [.st (.sc ns), .st D, .st (aL line), .st (aI hands), .st (aLL rs), .st (aL ws), .st Hd, .st (aI one), s8, s9, .no, .st (aI n)] := rfl
      rw [hs]
      constructor
      · te [cNi_i]
      · intro _; te []⟩
  have eG : ((line.filter fun n => !decide (n + 1 ∈ line)).map fun n => PyData.int (n + 1)) = dints G := by rw [hGd]; simp [dints, List.map_map, Function.comp_def]
  rw [eG] at eg
  refine wp_step (τ' := [.st (.sc ns), .st D, .st (aL line), .st (aI hands), .st (aLL rs), .st (aL ws), .st Hd, .st (aI one), s8, s9, .st (aL G), .no]) (by rw [sAsg_a, eg]; rfl) ?_
  refine wp_for (ds := [.int one, .int gap, .int (mx + 1 + d4)]) (fun i τ => ∃ s8, τ = [.st (.sc ns), .st D, .st (aL line), .st (aI hands), .st (aLL rs), .st (aL ws), .st Hd, .st (aI one), s8, s9, .st (aL G), .no]) (by
    te [D, pIx_4, List.length_map, pMod_i gpos, pg, emx]) ⟨_, rfl⟩ ?_ ?_
  · rintro i d τ hi ⟨s8, rfl⟩
    have hd := List.mem_of_getElem? hi
    have hc : ∃ c : Int, d = .int c ∧ (one = c ∨ c ∉ line) := by
      simp only [List.mem_cons, List.mem_nil_iff, or_false] at hd
      rcases hd with rfl | rfl | rfl
      · exact ⟨one, rfl, .inl rfl⟩
      · exact ⟨gap, rfl, .inr (hG gap hgap)⟩
      · exact ⟨_, rfl, .inr hfar⟩
    obtain ⟨c, rfl, hc⟩ := hc
    refine ⟨rfl, ?_⟩
    show Wp _ [.st (.sc ns), .st D, .st (aL line), .st (aI hands), .st (aLL rs), .st (aL ws), .st Hd, .st (aI one), .st (aI c), s9, .st (aL G), .no] _
    have f1 := refused_ok xc (margin_no cw (by omega) r2 (a := one) (b := c) (by rcases hc with q | q; exact .inl q; exact .inr (.inr q)))
    have f2 := refused_ok xc (margin_no cw (by omega) r2 (a := c) (b := one) (by rcases hc with q | q; exact .inl q.symm; exact .inr (.inl q)))
    exact wp_if0 (by te [Hd, x0, x1, f1, f2]) (wp_nil ⟨.inl rfl, _, rfl⟩)
  rintro τ ⟨s8, rfl⟩
  exact wp_ret (by te [Hd, eqH]) rfl
end KX

set_option Elab.async false
set_option linter.all false
set_option maxRecDepth 100000
set_option maxHeartbeats 4000000
namespace KX
open PySem PySem.Spec PyProof.Rows L2 M
theorem noCX {P : Program} : ∀ (w : World) (H : Hp) (s : Shared) (e : Value) (s' : Shared), L2.CX P w [] H s (fun _ _ _ => False) e s' → False := by
  rintro w H s e s' ⟨a, B, H', cls, d, _, _, _, _, _, _, _, z⟩
  exact z
theorem andl {a b : Bool} (h : (a && b) = true) : a = true := by revert h; cases a <;> simp
theorem andr {a b : Bool} (h : (a && b) = true) : b = true := by revert h; cases a <;> simp
section
variable {P : Program} {w : World} {K : PySem.W.Frag} {mg : Str → Option Value} {h : Heap}
theorem fr_of (X : K.In h) (G : h.Ns mainGlobals mg) (c : He.SaysD fa fn K) (more : (xkB K xl) = true) : Fr K mg := ⟨He.free_ok X G (c.fact 26 (f := .free "len") rfl), He.free_ok X G (c.fact 27 (f := .free "isinstance") rfl), He.free_ok X G (c.fact 28 (f := .free "int") rfl), He.free_ok X G (c.fact 29 (f := .free "bool") rfl), He.free_ok X G (c.fact 30 (f := .free "list") rfl), He.free_ok X G (c.fact 31 (f := .free "range") rfl), He.free_ok X G (c.fact 32 (f := .free "sorted") rfl), He.free_ok X G (c.fact 33 (f := .free "set") rfl), He.free_ok X G (c.fact 34 (f := .free "all") rfl), He.free_ok X G (c.fact 35 (f := .free "max") rfl), He.free_ok X G (c.fact 36 (f := .free "min") rfl), He.free_ok X G (c.fact 37 (f := .free "tuple") rfl), He.free_ok X G (c.fact 38 (f := .free "sum") rfl), He.free_ok X G (c.fact 39 (f := .free "zip") rfl), He.free_ok X G (c.fact 40 (f := .free "ValueError") rfl), He.int_ok X G (c.fact 41 (f := .int "MOST_NAMES" 10) rfl), He.int_ok X G (c.fact 42 (f := .int "MOST_HANDS" 20) rfl)⟩
theorem glo_of (X : K.In h) (G : h.Ns mainGlobals mg) (c : He.SaysD fa fn K) : mg "is_whole" = some (.ref (He.fAd K ("is_whole", none))) ∧ mg "is_name" = some (.ref (He.fAd K ("is_name", none))) ∧ mg "is_ranking" = some (.ref (He.fAd K ("is_ranking", none))) ∧ mg "is_folk" = some (.ref (He.fAd K ("is_folk", none))) ∧ mg "have_same_names" = some (.ref (He.fAd K ("have_same_names", none))) ∧ mg "are_names_of" = some (.ref (He.fAd K ("are_names_of", none))) ∧ mg "are_two_names" = some (.ref (He.fAd K ("are_two_names", none))) ∧ mg "check_folk" = some (.ref (He.fAd K ("check_folk", none))) ∧ mg "is_ahead" = some (.ref (He.fAd K ("is_ahead", none))) ∧ mg "are_weights" = some (.ref (He.fAd K ("are_weights", none))) ∧ mg "check_weights" = some (.ref (He.fAd K ("check_weights", none))) ∧ mg "count_margin" = some (.ref (He.fAd K ("count_margin", none))) ∧ mg "margin" = some (.ref (He.fAd K ("margin", none))) ∧ mg "_law_whole" = some (.ref (He.fAd K ("_law_whole", none))) ∧ mg "_law_draws" = some (.ref (He.fAd K ("_law_draws", none))) ∧ mg "_law_names" = some (.ref (He.fAd K ("_law_names", none))) ∧ mg "_law_shuffled" = some (.ref (He.fAd K ("_law_shuffled", none))) ∧ mg "_law_fallen" = some (.ref (He.fAd K ("_law_fallen", none))) ∧ mg "_law_line" = some (.ref (He.fAd K ("_law_line", none))) ∧ mg "_law_folk" = some (.ref (He.fAd K ("_law_folk", none))) ∧ mg "_law_weights" = some (.ref (He.fAd K ("_law_weights", none))) ∧ mg "_law_lead" = some (.ref (He.fAd K ("_law_lead", none))) ∧ mg "_law_copied" = some (.ref (He.fAd K ("_law_copied", none))) ∧ mg "_law_names_of" = some (.ref (He.fAd K ("_law_names_of", none))) ∧ mg "_law_refused" = some (.ref (He.fAd K ("_law_refused", none))) ∧ mg "law" = some (.ref (He.fAd K ("law", none))) :=
  ⟨He.glo_ok X G (c.fact 0 (f := .glo "is_whole") rfl), He.glo_ok X G (c.fact 1 (f := .glo "is_name") rfl), He.glo_ok X G (c.fact 2 (f := .glo "is_ranking") rfl), He.glo_ok X G (c.fact 3 (f := .glo "is_folk") rfl), He.glo_ok X G (c.fact 4 (f := .glo "have_same_names") rfl), He.glo_ok X G (c.fact 5 (f := .glo "are_names_of") rfl), He.glo_ok X G (c.fact 6 (f := .glo "are_two_names") rfl), He.glo_ok X G (c.fact 7 (f := .glo "check_folk") rfl), He.glo_ok X G (c.fact 8 (f := .glo "is_ahead") rfl), He.glo_ok X G (c.fact 9 (f := .glo "are_weights") rfl), He.glo_ok X G (c.fact 10 (f := .glo "check_weights") rfl), He.glo_ok X G (c.fact 11 (f := .glo "count_margin") rfl), He.glo_ok X G (c.fact 12 (f := .glo "margin") rfl), He.glo_ok X G (c.fact 13 (f := .glo "_law_whole") rfl), He.glo_ok X G (c.fact 14 (f := .glo "_law_draws") rfl), He.glo_ok X G (c.fact 15 (f := .glo "_law_names") rfl), He.glo_ok X G (c.fact 16 (f := .glo "_law_shuffled") rfl), He.glo_ok X G (c.fact 17 (f := .glo "_law_fallen") rfl), He.glo_ok X G (c.fact 18 (f := .glo "_law_line") rfl), He.glo_ok X G (c.fact 19 (f := .glo "_law_folk") rfl), He.glo_ok X G (c.fact 20 (f := .glo "_law_weights") rfl), He.glo_ok X G (c.fact 21 (f := .glo "_law_lead") rfl), He.glo_ok X G (c.fact 22 (f := .glo "_law_copied") rfl), He.glo_ok X G (c.fact 23 (f := .glo "_law_names_of") rfl), He.glo_ok X G (c.fact 24 (f := .glo "_law_refused") rfl), He.glo_ok X G (c.fact 25 (f := .glo "law") rfl)⟩
theorem ok_all {base : Heap} (X : K.In h) (G : h.Ns mainGlobals mg) (c : He.SaysD fa fn K) (more : (xkB K xl) = true) (W : Wo) (TB_is_ranking : GxR.TabB base mg (He.cT K ("is_ranking", none)).1 (He.cT K ("is_ranking", none)).2) (hPT_is_ranking : (He.cT K ("is_ranking", none)).2 ∈ W.T) (TB_is_folk : GxR.TabB base mg (He.cT K ("is_folk", none)).1 (He.cT K ("is_folk", none)).2) (hPT_is_folk : (He.cT K ("is_folk", none)).2 ∈ W.T) (TB_are_names_of : GxR.TabB base mg (He.cT K ("are_names_of", none)).1 (He.cT K ("are_names_of", none)).2) (hPT_are_names_of : (He.cT K ("are_names_of", none)).2 ∈ W.T) (TB_are_weights : GxR.TabB base mg (He.cT K ("are_weights", none)).1 (He.cT K ("are_weights", none)).2) (hPT_are_weights : (He.cT K ("are_weights", none)).2 ∈ W.T) (TB_count_margin : GxR.TabB base mg (He.cT K ("count_margin", none)).1 (He.cT K ("count_margin", none)).2) (hPT_count_margin : (He.cT K ("count_margin", none)).2 ∈ W.T) {fd : FuncData} (F_law' : FunD K "law" "law" (defArgs slaw) (defBody slaw) (defScope slaw) [] [] (He.fAd K ("law", none)) fd) : FnOk P w K mg base (CX P w) 17 (He.fAd K ("law", none)) fd ["_law_script"] (spOf { W with K := K } (aspT (He.ga K) (f_law (He.ga K)))) := by
  have R := fr_of X G c more
  obtain ⟨m_is_whole, m_is_name, m_is_ranking, m_is_folk, m_have_same_names, m_are_names_of, m_are_two_names, m_check_folk, m_is_ahead, m_are_weights, m_check_weights, m_count_margin, m_margin, m__law_whole, m__law_draws, m__law_names, m__law_shuffled, m__law_fallen, m__law_line, m__law_folk, m__law_weights, m__law_lead, m__law_copied, m__law_names_of, m__law_refused, m_law⟩ := glo_of X G c
  have XK : Xk K mg (He.ga K) xl := xk_ok X G more
  obtain ⟨fd_is_whole, F_is_whole⟩ := c.def_ 0 (d := dis_whole) rfl
  have g_is_whole : FnG P w K mg base W "is_whole" 1 (aspT (He.ga K) f_is_whole) := ⟨_, _, _, ok_is_whole F_is_whole R , m_is_whole, F_is_whole.kp, F_is_whole.bindsN fun _ _ _ _ _ _ us hl => match us, hl with | [_], _ => rfl⟩
  obtain ⟨fd_is_name, F_is_name⟩ := c.def_ 1 (d := dis_name) rfl
  have g_is_name : FnG P w K mg base W "is_name" 2 (aspT (He.ga K) f_is_name) := ⟨_, _, _, ok_is_name F_is_name R g_is_whole, m_is_name, F_is_name.kp, F_is_name.bindsN fun _ _ _ _ _ _ us hl => match us, hl with | [_], _ => rfl⟩
  obtain ⟨fd_is_ranking, F_is_ranking⟩ := c.def_ 2 (d := dis_ranking) rfl
  have hcode_is_ranking : fd_is_ranking.code = .ref (He.cT K ("is_ranking", none)).1 := by
    obtain ⟨oc, od, dV, kV, doc, pm, an, cdv, ct, osl, e, lk, hcd, _, _⟩ := F_is_ranking.ex
    obtain ⟨c', hc'⟩ := He.codeIn_ref hcd
    have e2 : fd_is_ranking.code = .ref c' := by rw [e]; exact hc'
    rw [e2, show (He.cT K ("is_ranking", none)).1 = c' from He.codeOf_eq lk e2]
  have g_is_ranking : FnG P w K mg base W "is_ranking" 7 (aspT (He.ga K) f_is_ranking) := ⟨_, _, _, ok_is_ranking F_is_ranking R g_is_name TB_is_ranking hPT_is_ranking hcode_is_ranking, m_is_ranking, F_is_ranking.kp, F_is_ranking.bindsN fun _ _ _ _ _ _ us hl => match us, hl with | [_], _ => rfl⟩
  obtain ⟨fd_have_same_names, F_have_same_names⟩ := c.def_ 4 (d := dhave_same_names) rfl
  have g_have_same_names : FnG P w K mg base W "have_same_names" 1 (aspT (He.ga K) f_have_same_names) := ⟨_, _, _, ok_have_same_names F_have_same_names R , m_have_same_names, F_have_same_names.kp, F_have_same_names.bindsN fun _ _ _ _ _ _ us hl => match us, hl with | [_, _], _ => rfl⟩
  obtain ⟨fd_is_folk, F_is_folk⟩ := c.def_ 3 (d := dis_folk) rfl
  have hcode_is_folk : fd_is_folk.code = .ref (He.cT K ("is_folk", none)).1 := by
    obtain ⟨oc, od, dV, kV, doc, pm, an, cdv, ct, osl, e, lk, hcd, _, _⟩ := F_is_folk.ex
    obtain ⟨c', hc'⟩ := He.codeIn_ref hcd
    have e2 : fd_is_folk.code = .ref c' := by rw [e]; exact hc'
    rw [e2, show (He.cT K ("is_folk", none)).1 = c' from He.codeOf_eq lk e2]
  have g_is_folk : FnG P w K mg base W "is_folk" 12 (aspT (He.ga K) f_is_folk) := ⟨_, _, _, ok_is_folk F_is_folk R g_is_ranking g_have_same_names TB_is_folk hPT_is_folk hcode_is_folk, m_is_folk, F_is_folk.kp, F_is_folk.bindsN fun _ _ _ _ _ _ us hl => match us, hl with | [_], _ => rfl⟩
  obtain ⟨fd_are_names_of, F_are_names_of⟩ := c.def_ 5 (d := dare_names_of) rfl
  have hcode_are_names_of : fd_are_names_of.code = .ref (He.cT K ("are_names_of", none)).1 := by
    obtain ⟨oc, od, dV, kV, doc, pm, an, cdv, ct, osl, e, lk, hcd, _, _⟩ := F_are_names_of.ex
    obtain ⟨c', hc'⟩ := He.codeIn_ref hcd
    have e2 : fd_are_names_of.code = .ref c' := by rw [e]; exact hc'
    rw [e2, show (He.cT K ("are_names_of", none)).1 = c' from He.codeOf_eq lk e2]
  have g_are_names_of : FnG P w K mg base W "are_names_of" 6 (aspT (He.ga K) f_are_names_of) := ⟨_, _, _, ok_are_names_of F_are_names_of R g_is_whole TB_are_names_of hPT_are_names_of hcode_are_names_of, m_are_names_of, F_are_names_of.kp, F_are_names_of.bindsN fun _ _ _ _ _ _ us hl => match us, hl with | [_, _], _ => rfl⟩
  obtain ⟨fd_are_two_names, F_are_two_names⟩ := c.def_ 6 (d := dare_two_names) rfl
  have g_are_two_names : FnG P w K mg base W "are_two_names" 7 (aspT (He.ga K) f_are_two_names) := ⟨_, _, _, ok_are_two_names F_are_two_names R g_are_names_of, m_are_two_names, F_are_two_names.kp, F_are_two_names.bindsN fun _ _ _ _ _ _ us hl => match us, hl with | [_, _, _], _ => rfl⟩
  obtain ⟨fd_check_folk, F_check_folk⟩ := c.def_ 7 (d := dcheck_folk) rfl
  have g_check_folk : FnG P w K mg base W "check_folk" 13 (aspT (He.ga K) f_check_folk) := ⟨_, _, _, ok_check_folk F_check_folk R g_is_folk XK, m_check_folk, F_check_folk.kp, F_check_folk.bindsN fun _ _ _ _ _ _ us hl => match us, hl with | [_], _ => rfl⟩
  obtain ⟨fd_is_ahead, F_is_ahead⟩ := c.def_ 8 (d := dis_ahead) rfl
  have g_is_ahead : FnG P w K mg base W "is_ahead" 1 (aspT (He.ga K) f_is_ahead) := ⟨_, _, _, ok_is_ahead F_is_ahead R , m_is_ahead, F_is_ahead.kp, F_is_ahead.bindsN fun _ _ _ _ _ _ us hl => match us, hl with | [_, _, _], _ => rfl⟩
  obtain ⟨fd_are_weights, F_are_weights⟩ := c.def_ 9 (d := dare_weights) rfl
  have hcode_are_weights : fd_are_weights.code = .ref (He.cT K ("are_weights", none)).1 := by
    obtain ⟨oc, od, dV, kV, doc, pm, an, cdv, ct, osl, e, lk, hcd, _, _⟩ := F_are_weights.ex
    obtain ⟨c', hc'⟩ := He.codeIn_ref hcd
    have e2 : fd_are_weights.code = .ref c' := by rw [e]; exact hc'
    rw [e2, show (He.cT K ("are_weights", none)).1 = c' from He.codeOf_eq lk e2]
  have g_are_weights : FnG P w K mg base W "are_weights" 6 (aspT (He.ga K) f_are_weights) := ⟨_, _, _, ok_are_weights F_are_weights R g_is_whole TB_are_weights hPT_are_weights hcode_are_weights, m_are_weights, F_are_weights.kp, F_are_weights.bindsN fun _ _ _ _ _ _ us hl => match us, hl with | [_, _], _ => rfl⟩
  obtain ⟨fd_check_weights, F_check_weights⟩ := c.def_ 10 (d := dcheck_weights) rfl
  have g_check_weights : FnG P w K mg base W "check_weights" 14 (aspT (He.ga K) f_check_weights) := ⟨_, _, _, ok_check_weights F_check_weights R g_check_folk g_are_weights XK, m_check_weights, F_check_weights.kp, F_check_weights.bindsN fun _ _ _ _ _ _ us hl => match us, hl with | [_, _], _ => rfl⟩
  obtain ⟨fd_count_margin, F_count_margin⟩ := c.def_ 11 (d := dcount_margin) rfl
  have hcode_count_margin : fd_count_margin.code = .ref (He.cT K ("count_margin", none)).1 := by
    obtain ⟨oc, od, dV, kV, doc, pm, an, cdv, ct, osl, e, lk, hcd, _, _⟩ := F_count_margin.ex
    obtain ⟨c', hc'⟩ := He.codeIn_ref hcd
    have e2 : fd_count_margin.code = .ref c' := by rw [e]; exact hc'
    rw [e2, show (He.cT K ("count_margin", none)).1 = c' from He.codeOf_eq lk e2]
  have g_count_margin : FnG P w K mg base W "count_margin" 6 (aspT (He.ga K) f_count_margin) := ⟨_, _, _, ok_count_margin F_count_margin R g_is_ahead TB_count_margin hPT_count_margin hcode_count_margin, m_count_margin, F_count_margin.kp, F_count_margin.bindsN fun _ _ _ _ _ _ us hl => match us, hl with | [_, _, _, _], _ => rfl⟩
  obtain ⟨fd_margin, F_margin⟩ := c.def_ 12 (d := dmargin) rfl
  have g_margin : FnG P w K mg base W "margin" 15 (aspT (He.ga K) f_margin) := ⟨_, _, _, ok_margin F_margin R g_check_weights g_are_two_names g_count_margin XK, m_margin, F_margin.kp, F_margin.bindsN fun _ _ _ _ _ _ us hl => match us, hl with | [_, _, _, _], _ => rfl⟩
  obtain ⟨fd__law_whole, F__law_whole⟩ := c.def_ 13 (d := d_law_whole) rfl
  have g__law_whole : FnG P w K mg base W "_law_whole" 1 (aspT (He.ga K) f__law_whole) := ⟨_, _, _, ok__law_whole F__law_whole R , m__law_whole, F__law_whole.kp, F__law_whole.bindsN fun _ _ _ _ _ _ us hl => match us, hl with | [_], _ => rfl⟩
  obtain ⟨fd__law_draws, F__law_draws⟩ := c.def_ 14 (d := d_law_draws) rfl
  have g__law_draws : FnG P w K mg base W "_law_draws" 1 (aspT (He.ga K) f__law_draws) := ⟨_, _, _, ok__law_draws F__law_draws R , m__law_draws, F__law_draws.kp, F__law_draws.bindsN fun _ _ _ _ _ _ us hl => match us, hl with | [_, _, _], _ => rfl⟩
  obtain ⟨fd__law_names, F__law_names⟩ := c.def_ 15 (d := d_law_names) rfl
  have g__law_names : FnG P w K mg base W "_law_names" 1 (aspT (He.ga K) f__law_names) := ⟨_, _, _, ok__law_names F__law_names R , m__law_names, F__law_names.kp, F__law_names.bindsN fun _ _ _ _ _ _ us hl => match us, hl with | [_], _ => rfl⟩
  obtain ⟨fd__law_shuffled, F__law_shuffled⟩ := c.def_ 16 (d := d_law_shuffled) rfl
  have g__law_shuffled : FnG P w K mg base W "_law_shuffled" 1 (aspT (He.ga K) f__law_shuffled) := ⟨_, _, _, ok__law_shuffled F__law_shuffled R , m__law_shuffled, F__law_shuffled.kp, F__law_shuffled.bindsN fun _ _ _ _ _ _ us hl => match us, hl with | [_, _], _ => rfl⟩
  obtain ⟨fd__law_fallen, F__law_fallen⟩ := c.def_ 17 (d := d_law_fallen) rfl
  have g__law_fallen : FnG P w K mg base W "_law_fallen" 1 (aspT (He.ga K) f__law_fallen) := ⟨_, _, _, ok__law_fallen F__law_fallen R , m__law_fallen, F__law_fallen.kp, F__law_fallen.bindsN fun _ _ _ _ _ _ us hl => match us, hl with | [_, _], _ => rfl⟩
  obtain ⟨fd__law_line, F__law_line⟩ := c.def_ 18 (d := d_law_line) rfl
  have g__law_line : FnG P w K mg base W "_law_line" 2 (aspT (He.ga K) f__law_line) := ⟨_, _, _, ok__law_line F__law_line R g__law_draws g__law_shuffled g__law_names, m__law_line, F__law_line.kp, F__law_line.bindsN fun _ _ _ _ _ _ us hl => match us, hl with | [_, _, _], _ => rfl⟩
  obtain ⟨fd__law_folk, F__law_folk⟩ := c.def_ 19 (d := d_law_folk) rfl
  have g__law_folk : FnG P w K mg base W "_law_folk" 2 (aspT (He.ga K) f__law_folk) := ⟨_, _, _, ok__law_folk F__law_folk R g__law_draws g__law_shuffled g__law_fallen, m__law_folk, F__law_folk.kp, F__law_folk.bindsN fun _ _ _ _ _ _ us hl => match us, hl with | [_, _, _, _, _], _ => rfl⟩
  obtain ⟨fd__law_weights, F__law_weights⟩ := c.def_ 20 (d := d_law_weights) rfl
  have g__law_weights : FnG P w K mg base W "_law_weights" 2 (aspT (He.ga K) f__law_weights) := ⟨_, _, _, ok__law_weights F__law_weights R g__law_draws, m__law_weights, F__law_weights.kp, F__law_weights.bindsN fun _ _ _ _ _ _ us hl => match us, hl with | [_, _, _], _ => rfl⟩
  obtain ⟨fd__law_lead, F__law_lead⟩ := c.def_ 21 (d := d_law_lead) rfl
  have g__law_lead : FnG P w K mg base W "_law_lead" 1 (aspT (He.ga K) f__law_lead) := ⟨_, _, _, ok__law_lead F__law_lead R , m__law_lead, F__law_lead.kp, F__law_lead.bindsN fun _ _ _ _ _ _ us hl => match us, hl with | [_, _, _, _], _ => rfl⟩
  obtain ⟨fd__law_copied, F__law_copied⟩ := c.def_ 22 (d := d_law_copied) rfl
  have g__law_copied : FnG P w K mg base W "_law_copied" 6 (aspT (He.ga K) f__law_copied) := ⟨_, _, _, ok__law_copied F__law_copied R  m__law_copied F__law_copied.kp (F__law_copied.bindsN fun _ _ _ _ _ _ us hl => match us, hl with | [_], _ => rfl) 5, m__law_copied, F__law_copied.kp, F__law_copied.bindsN fun _ _ _ _ _ _ us hl => match us, hl with | [_], _ => rfl⟩
  obtain ⟨fd__law_names_of, F__law_names_of⟩ := c.def_ 23 (d := d_law_names_of) rfl
  have g__law_names_of : FnG P w K mg base W "_law_names_of" 1 (aspT (He.ga K) (f__law_names_of (He.ga K))) := ⟨_, _, _, ok__law_names_of F__law_names_of R  XK, m__law_names_of, F__law_names_of.kp, F__law_names_of.bindsN fun _ _ _ _ _ _ us hl => match us, hl with | [_], _ => rfl⟩
  obtain ⟨fd__law_refused, F__law_refused⟩ := c.def_ 24 (d := d_law_refused) rfl
  have g__law_refused : FnG P w K mg base W "_law_refused" 16 (aspT (He.ga K) (f__law_refused (He.ga K))) := ⟨_, _, _, ok__law_refused F__law_refused R g_margin g__law_names_of XK, m__law_refused, F__law_refused.kp, F__law_refused.bindsN fun _ _ _ _ _ _ us hl => match us, hl with | [_, _, _, _], _ => rfl⟩
  obtain ⟨fd_law, F_law⟩ := c.def_ 25 (d := dlaw) rfl
  exact ok_law F_law' R g__law_draws g__law_line g__law_folk g__law_weights g__law_copied g_margin g__law_whole g__law_lead g__law_refused
end
theorem ends (w : World) (mg : Str → Option Value) (fa' : Addr) (h : Heap) (Y : hk.says w h) (G : h.Ns mainGlobals mg) (hmg : mg ("law" : Str) = some (.ref fa')) :
    ∃ K : PySem.W.Frag, K.In h ∧ LamX.LawAtS PySem.Challenge.rw_ontheline_k50_margins w K (L2.CX (PySem.Challenge.rw_ontheline_k50_margins).prog w) 17 63 "_law_script" mg fa' h := by
  obtain ⟨K, X, S⟩ := Y
  have c : He.SaysD fa fn K := congrArg Prod.fst S.t
  obtain ⟨m_is_whole, m_is_name, m_is_ranking, m_is_folk, m_have_same_names, m_are_names_of, m_are_two_names, m_check_folk, m_is_ahead, m_are_weights, m_check_weights, m_count_margin, m_margin, m__law_whole, m__law_draws, m__law_names, m__law_shuffled, m__law_fallen, m__law_line, m__law_folk, m__law_weights, m__law_lead, m__law_copied, m__law_names_of, m__law_refused, m_law⟩ := glo_of X G c
  obtain ⟨fdL, FL⟩ := c.def_ 25 (d := dlaw) rfl
  have e := hmg.symm.trans m_law
  cases e
  refine ⟨K, X, fdL, tf.map (He.cT K), spLawS K (tf.map fun p => (He.cT K p).2), fun p hp => ?_, fun p hp => ?_, fun p hp => ?_, fun s u => ?_, fun H a ns hl hb hT hS => ?_, fun base KB GB TB => ?_⟩
  · obtain ⟨q, hq, rfl⟩ := List.mem_map.mp hp
    exact S.empty _ hq
  · obtain ⟨q, hq, rfl⟩ := List.mem_map.mp hp
    exact S.out _ hq
  · obtain ⟨q, hq, rfl⟩ := List.mem_map.mp hp
    exact PySem.W.codeHd_of_K X (S.hd _ hq)
  · exact (FunD.bindsA (ps := ["_law_script"]) FL fun _ _ _ _ _ _ us hl => match us, hl with | [_], _ => rfl) s [u] rfl
  · refine ⟨a, ns, rfl, hS, hb, fun p hp => ?_, fun _ => rfl⟩
    obtain ⟨q, hq, rfl⟩ := List.mem_map.mp hp
    exact ⟨#[], hT _ (List.mem_map.mpr ⟨q, hq, rfl⟩), by trivial⟩
  · have tb_is_ranking := TB (He.cT K ("is_ranking", none)) (List.mem_map.mpr ⟨("is_ranking", none), by simp [tf], rfl⟩)
    have tb_is_folk := TB (He.cT K ("is_folk", none)) (List.mem_map.mpr ⟨("is_folk", none), by simp [tf], rfl⟩)
    have tb_are_names_of := TB (He.cT K ("are_names_of", none)) (List.mem_map.mpr ⟨("are_names_of", none), by simp [tf], rfl⟩)
    have tb_are_weights := TB (He.cT K ("are_weights", none)) (List.mem_map.mpr ⟨("are_weights", none), by simp [tf], rfl⟩)
    have tb_count_margin := TB (He.cT K ("count_margin", none)) (List.mem_map.mpr ⟨("count_margin", none), by simp [tf], rfl⟩)
    refine lawS_ok ?_
    refine law_asp (xc := He.ga K) (f := f_law (He.ga K)) (fun ns hb => law_true (He.ga K) ns hb) ?_
    exact ok_all X G c S.more ⟨K, tf.map fun p => (He.cT K p).2, none, 1⟩ ⟨tb_is_ranking.code, tb_is_ranking.bm, tb_is_ranking.gP⟩ (List.mem_map.mpr ⟨("is_ranking", none), by simp [tf], rfl⟩) ⟨tb_is_folk.code, tb_is_folk.bm, tb_is_folk.gP⟩ (List.mem_map.mpr ⟨("is_folk", none), by simp [tf], rfl⟩) ⟨tb_are_names_of.code, tb_are_names_of.bm, tb_are_names_of.gP⟩ (List.mem_map.mpr ⟨("are_names_of", none), by simp [tf], rfl⟩) ⟨tb_are_weights.code, tb_are_weights.bm, tb_are_weights.gP⟩ (List.mem_map.mpr ⟨("are_weights", none), by simp [tf], rfl⟩) ⟨tb_count_margin.code, tb_count_margin.bm, tb_count_margin.gP⟩ (List.mem_map.mpr ⟨("count_margin", none), by simp [tf], rfl⟩) FL

end KX
open PySem PySem.W PySem.Calls PyProof.Rows
theorem PySem.Challenge.cw_ontheline_k50_margins_holds : PySem.Challenge.rw_ontheline_k50_margins.Holds := by
  w_on; o_law
  refine HandSHeadRun.head_any (r := OpenLaw.row PySem.Challenge.rw_ontheline_k50_margins) (q := view (OpenLaw.row PySem.Challenge.rw_ontheline_k50_margins).prog [51]) (H := KX.hk) (ob := KX.ob) (M := 12000) (loose := KX.loose) (d := HandSHeadRun.topDef (OpenLaw.row PySem.Challenge.rw_ontheline_k50_margins).prog 51) (kwd := []) KX.ob_eq
    (by kernel_rfl) (fun s => by kernel_rfl) KX.run (by kernel_rfl) (by kernel_rfl) (by kernel_rfl) (by rfl) (by first | assumption | decide +kernel) (by decide +kernel) ⟨rfl, rfl, rfl, rfl, rfl, by decide +kernel⟩ ?hw ?hc
  case hw => w_witness2
  case hc =>
    refine LamX.walk_ofTsE (l := PySem.Challenge.rw_ontheline_k50_margins) (n := 63) (k := 17) (x := "_law_script") (CX := fun w => L2.CX (PySem.Challenge.rw_ontheline_k50_margins).prog w) rfl (by decide) (by kernel_rfl) ⟨rfl, by decide, by decide⟩ ?F ?cx
    case cx => exact KX.noCX
    case F =>
      intro w mg fa h Y G hmg0
      have hmg : mg ("law" : PySem.Str) = some (.ref fa) := by
        have e : (HandSHeadRun.topDef (OpenLaw.row PySem.Challenge.rw_ontheline_k50_margins).prog 51).name = ("law" : PySem.Str) := by kernel_rfl
        rw [← e]
        exact hmg0
      exact KX.ends w mg fa h Y G hmg
