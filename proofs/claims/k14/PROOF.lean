import PyProof.Rows.All
import Wide.All
import OpenK.AllK
import Wide.FinOn
import HandS.ForMost
import HandS.Wide
import HandS.ExcInit
import HandS.FStr
import HandS.Nested
import HandS.TryOnly
import HandS.ExcField
import HandS.WordsExc
import HandS.IsInst
import HandS.Codes
import HandS.Gcd
import HandS.Star
import HandS.ClsMeth
import KE.KTupSum
import HandS.Defaults
import HandS.ExcIs
import KE.KExcSuper
import KE.KMathG
import HandS.FStrTup
import HandS.OwnEq
import HandS.TupLe
import HandS.DeepEq
import HandS.MakeKw
import HandS.Walk
import HandS.WordsDict
import HandS.More
import HandS.Deep
import HandS.Style
import HandS.Flow
import HandS.CallSlots
import KE.GoesRaise
import PyProof.ReprReads
import HandS.MethStar
import HandS.SortInts
import HandS.DictComp
import KE.KSortedM
import HandS.DictTup
import HandS.Zip
import HandS.Conv
import HandS.TupMul
import KE.KCallOwn
import PySem.Challenge.RW_rungbounds_k14_trials_as_values
set_option Elab.async false
set_option linter.all false
set_option maxRecDepth 100000
set_option maxHeartbeats 4000000
/-! Errors whose making calls super().__init__ on a text, then keeps a field. -/
namespace Sup
open PySem PySem.Spec PyProof.Rows L2 NdefX

abbrev mwrap (x : Addr) : Obj := PySem.W.kxs_mw "ValueError.__init__" x

/-- the wrapper of ValueError.__init__ bound to a, called -/
theorem call_wrap {prog : Program} {w : World} {A : Around} {E : Value → Shared → Prop} {h : Heap} {g : Array GenState} {d : Drawn} {t : Nat} {os : OsState}
    {nm q : Str} {C N : Addr} {bs bm : List Value} {hd : Bool} {sn : List Str} {sub : List Value} {ab : Bool} {col : Option Bool} {dd : Option Addr} {k0 k1 k2 k3 k5 : Option Value}
    {u a t0 : Addr} {us : List Value} {Q : Value → Shared → Prop}
    (hC : h.get? C = some (excClassObj nm q C N bs bm hd sn sub ab col dd k0 k1 k2 k3 k5 "ValueError.__new__"))
    (ha : h.get? a = some (PySem.HandSPX.excO C t0)) (hu : h.get? u = some (mwrap a)) (hl : us.length ≤ sizeLine)
    (hq : ∀ h' t1, (∀ b o, b ≠ a → h.get? b = some o → h'.get? b = some o) → h'.get? a = some (PySem.HandSPX.excO C t1) → Q .none ⟨h', g, d, t, os⟩) :
    wpAny (model prog w) A (call (.ref u) us) Q E ⟨h, g, d, t, os⟩ := by
  have FB := F.excBase_ValueError
  refine wpAny_call (codeAny_of_tree ?_)
  show wpAny _ A.in1 (callAny (.ref u) ⟨us, []⟩) _ _ _
  unfold callAny
  refine wpAny_bind (wpAny_load hu ?_)
  have k1' : (Value.type "method-wrapper" == Value.type "method" || Value.type "method-wrapper" == Value.type "builtin_function_or_method" || Value.type "method-wrapper" == Value.type "method-wrapper") = true := by decide
  simp only [mwrap, PySem.W.kxs_mw, k1', if_true]
  refine PySem.W.KFB.if_so (by decide) ?_
  refine wpAny_bind (PySem.W.check_bound_init FB.toExcCallFacts hC ha rfl ?_)
  refine wpAny_bind (wpAny_pure (wpAny_pure ?_))
  refine ⟨plainId_quiet FB.init.plain _, codeAny_builtin FB.initEntry ?_⟩
  exact PySem.W.exc_init_tree (cls := .ref C) (t0 := t0) (dv := none) (c2 := .none) (c3 := .none) (b4 := .bool false) ha hl fun h' k e _ => hq h' _ k e

/-- what the written part says of an own error's class at C and its __init__ at f -/
structure ErrTxt (P : Program) (K : PySem.W.Frag) (mg : Str → Option Value) (C f cda cc : Addr) (qual : Str) (st : Stmt) : Prop where
  oex : OexC K C
  iC : PySem.W.findIn K (.ref C) "__init__" = some (some (.ref f))
  tI : PySem.W.typeIn K (.ref f) = some (.type "function")
  fn : ∃ (oc : Value) (od an : Option Addr) (kV doc pm ct : Value) (osl : Array (Option Value)),
    K.lookup f = some ⟨oc, od, .func (PySem.W.fnX "__init__" qual (defArgs st) (defBody st) (defScope st) [("__class__", cc)] .none kV doc pm an (.ref cda) ct), osl⟩
  code : PySem.W.codeIn K (.ref cda) qual = true
  file : ∃ (o : Obj) (vs : Array Value) (fl : Str) (tf : Tok), K.lookup cda = some o ∧ o.data = .fields vs ∧ vs[2]? = some (.str fl tf) ∧ ((P.main.file : Str) == fl) = true
  cell : ∃ (o : Obj), K.lookup cc = some o ∧ o.data = .cell (some (.ref C))
  self : PySem.W.mroIn K C (.ref C) = some true
  opaque_ : PySem.W.nsIn K cStatics "thirdparty.any" = some none
  up : PySem.W.ks_superIn K C C "__init__" = some (some (.builtin "ValueError.__init__"))
  isVE : PySem.W.subIn K (.ref C) (.type "ValueError") = some true
  top : (P.main.scope.names.lookup ("super" : Str)).isSome = false
  noSup : mg "super" = none

section
variable {X : Cx} {pins : List (Addr × Obj)} {σ : L2.St} {H : Hp} {s : Shared} {a C f cda cc : Addr} {qual : Str} {st : Stmt} {e : Expr} {te : TE} {body : List Stmt} {p0 p1 p2 p3 : Pos} {Q : Hp → Prop} {scope : Scope} {ar : Arg}
theorem super_init (T : ErrTxt X.prog X.K X.mg C f cda cc qual st) (I : Inv X pins σ H s)
    (henv : X.env = PySem.W.envX qual scope X.env.locals f (.ref cda) [("__class__", cc)])
    (hks : scope.names.lookup ("super" : Str) = some .globalImplicit) (hkc : scope.names.lookup ("__class__" : Str) = some .free)
    (hks' : scope.names.lookup ar.arg = some .local)
    (har : ((defArgs st).posonlyargs ++ (defArgs st).args).head? = some ar)
    (h0 : X.N[0]? = some ar.arg) (hs0 : σ[0]? = some (some (V.ref a))) (ha : H a = some (exo a C none))
    (he : PE X e te) (hq : te σ H fun x H1 => [x].length ≤ 1 ∧ H1 a = some (exo a C none) ∧ Q H1) {pl : Sem Bool}
    (hform : eval (.Call (.Attribute (.Call (.Name "super" p0) [] [] p1) "__init__" p2) [e] [] p3) X.env = (do
      let ov ← attributeBase (.Call (.Name "super" p0) [] [] p1) "__init__" X.env (eval (.Call (.Name "super" p0) [] [] p1) X.env)
      standAt p2.atName
      let (g, first) ← holding [ov] (getMethod ov "__init__" pl)
      callWith p3 g first (backTo p3 (starEach [e] X.env)) []) := by rfl)
    (hse : starEach [e] X.env = (false, eval e X.env) :: starEach [] X.env := by rfl) :
    _root_.PySem.wpAt (model X.prog X.w) X.A (.func body X.env) (eval (.Call (.Attribute (.Call (.Name "super" p0) [] [] p1) "__init__" p2) [e] [] p3) X.env)
      (fun _ s' => ∃ H', Inv X pins σ H' s' ∧ Q H') X.xe s := by
  have kS : X.env.kindOf "super" = some .globalImplicit := by rw [henv]; exact hks
  have kC : X.env.kindOf "__class__" = some .free := by rw [henv]; exact hkc
  have kA : X.env.kindOf ar.arg = some .local := by rw [henv]; exact hks'
  have cL : X.env.cells.lookup ("__class__" : Str) = some cc := by rw [henv]; rfl
  have fL : X.env.func = some f := by rw [henv]
  have dL : X.env.code = .ref cda := by rw [henv]
  obtain ⟨nm, q, N, bs, bm, sn, sub, ab, col, dd, k0, k1, k2, k3, k5, hC, hbm⟩ := T.oex.cls
  have hcl : PySem.W.clsIn X.K C = some { name := nm, bases := bs, mro := .ref C :: bm, ns := N, qualname := q, hasDict := true, slotNames := sn, subclasses := sub, abstract := ab, collection := col, hasDel := false } := by
    unfold PySem.W.clsIn; rw [hC] <;> rfl
  obtain ⟨oc, od, an, kV, doc, pm, ct, osl, lf⟩ := T.fn
  obtain ⟨oF, vs, fl, tf, lc, hvf, hv2, hfl⟩ := T.file
  obtain ⟨oc2, lcell, dcell⟩ := T.cell
  obtain ⟨t1, hga⟩ := exo_at I.hok ha
  refine ks_wpAt_MethodCall (o := .Call (.Name "super" p0) [] [] p1) (name := "__init__") (apos := p2) (pos := p3) (args := [e]) (env := X.env) ?_ hform
  refine ks_wpAt_super_base (env := X.env) (cc := cda) (ar := ar) kS kC (by decide) fL (I.kIn _ _ lf) rfl har dL (I.kIn _ _ lc) hvf hv2 hfl T.top ?_
  -- the name super
  obtain ⟨mb, hb1, hb2⟩ := I.mod.blt
  refine PySem.W.ks_loadName_global I.ok.kind kS (Calls.loadGlobal_builtin (v := .type "super") (by rw [I.ok.glob]; exact I.mod.glob.keeps I.bk) T.noSup
    (by rw [I.ok.blt]; exact hb1.keeps I.bk) ((hb2 _ (by decide)).trans (by decide +kernel)) ⟨rfl, ?_⟩)
  -- the cell __class__
  refine wpAny_loadName_free I.ok.kind kC cL (v := .ref C) ⟨_, I.kIn _ _ lcell, dcell⟩ ?_
  -- self
  obtain ⟨m, hn, hlm⟩ := I.loc
  obtain ⟨u, ru, hlook⟩ := hlm 0 ar.arg (V.ref a) h0 hs0 (.inl (by rw [henv]; exact hks'))
  obtain rfl : u = Value.ref a := ru
  have hma : m ar.arg = some (Value.ref a) := by
    rcases hlook with ⟨_, z⟩ | ⟨z, _⟩
    · exact z
    · rw [kA] at z
      rcases z with z | z <;> cases z
  refine wpAny_loadName_local I.ok.kind kA hn hma ?_
  have gC := I.kIn _ _ hC
  refine ks_wpAny_isType_cls gC rfl ⟨rfl, ?_⟩
  obtain ⟨hp, g, d, t, os⟩ := s
  refine ks_wpAny_call_super gC rfl hga rfl (fun c z => by cases z) (PySem.W.looks_mroIn I.kIn T.self) fun h1 e1 k1 => ?_
  have J1 : Inv X pins σ H ⟨h1, g, d, t, os⟩ := I.kept (t' := t) k1
  have I1 : PySem.W.InstAt h1 a (PySem.HandSPX.excO C t1) C none := ⟨k1 _ _ hga, rfl, rfl, trivial⟩
  have hup := T.up
  unfold PySem.W.ks_superIn at hup
  rw [hcl] at hup
  refine PySem.W.kxs_getMethod PySem.W.kxs_ValueError e1 (PySem.W.looks_opaque J1.kIn T.opaque_)
    (fun A' Q' E' s' k q => wpAny_bind ((PySem.W.looks_clsIn J1.kIn hcl) A' _ E' s' k (wpAny_pure q))) rfl J1.kIn hup
    (I1.type.andThen (PySem.W.looks_subIn J1.kIn T.isVE)) (PySem.W.ks_ne J1.kIn I1 hcl) (by decide) ?_
  have gu : (h1.push (mwrap a)).get? h1.objs.size = some (mwrap a) := Heap.get?_push_at rfl rfl
  have J2 : Inv X pins σ H ⟨h1.push (mwrap a), g, d, t + 1, os⟩ := J1.kept (t' := t + 1) fun b o z => Heap.get?_push_of_some _ z
  have J3 : Inv X ((h1.objs.size, mwrap a) :: pins) σ H ⟨h1.push (mwrap a), g, d, t + 1, os⟩ := J2.pins_of fun p hp => by
    rcases List.mem_cons.mp hp with rfl | hp
    · refine ⟨gu, J1.hok.fresh (Nat.le_refl _), fun z => ?_, J1.nofs (Nat.le_refl _), fun v z => by cases z⟩
      have z' : h1.objs.size = X.env.locals := z
      have y := J1.lt
      rw [← z'] at y
      exact absurd y (Nat.lt_irrefl _)
    · exact J2.pin p (List.mem_append_right _ hp)
  show wpAny _ _ (callWith p3 (.ref h1.objs.size) [] (backTo p3 (starEach [e] X.env)) []) _ _ _
  have hq' : tCons te tNil σ H fun xs H1 => xs.length ≤ 1 ∧ H1 a = some (exo a C none) ∧ Q H1 := hq
  rw [hse]
  refine PySem.W.kxs_callWith (i := "ValueError.__init__") (x := a) (by rfl) ?_
  refine Calls.evalArgs_plain ?_
  have pr := (pa_cons he pa_nil hse).run p3 _ _ σ H _ J3 hq'
  rw [hse] at pr
  refine thn pr fun us s2 hh => ?_
  obtain ⟨xs, H2, I2, r2, hx1, ha2, hQ2⟩ := hh
  have gw := (I2.pin (h1.objs.size, mwrap a) (List.mem_append_right _ List.mem_cons_self)).1
  refine ⟨gw, ?_⟩
  obtain ⟨t2, hga2⟩ := exo_at I2.hok ha2
  obtain ⟨hp2, g2, d2, tk2, os2⟩ := s2
  have hul : us.length ≤ sizeLine := by
    rw [← r2.length, sizeLine_eq]
    omega
  refine call_wrap (us := us) (I2.kIn _ _ hC) hga2 gw hul fun h3 t3 k3' e3 => ?_
  have J4 := I2.write (t' := tk2) (x := a) (e := a) (o := exo a C none) (by rw [ha2]; exact True.intro) (.inl rfl) k3' ⟨_, e3⟩ (exo_ok e3)
  have eu : upd H2 a (exo a C none) = H2 := by
    funext b
    by_cases hb : b = a
    · rw [hb, upd_same, ha2]
    · exact upd_ne hb
  rw [eu] at J4
  exact ⟨H2, J4.pins_of fun p hp => J4.pin p (List.mem_append_right _ (List.mem_cons_of_mem _ hp)), hQ2⟩
end

/-! ### the making of an own error, as a promise -/
/-- at a an exception of the class at C is being made; the argument v goes to the field fl -/
def spErr (C : Addr) (fl : Str) (ok : V → Prop) : Sp := fun vs H Q _ => ∃ (a : Addr) (v : V), vs = [.ref a, v] ∧ H a = some (exo a C none) ∧ ok v ∧
  ∀ dx, H dx = none → dx ≠ a → Q .non (upd (upd H dx (exd dx [(fl, v)])) a (exo a C (some dx)))

def okInt : V → Prop := fun v => ∃ i : Int, v = .int i ∧ i.natAbs.log2 < 1920
def okTxt : V → Prop := fun v => ∃ y : Str, v = .str y ∧ (reprText y).length ≤ 10000

section
variable {P : Program} {w : World} {K : PySem.W.Frag} {mg : Str → Option Value} {base : Heap} {C f cda cc : Addr} {qual pn : Str} {st : Stmt} {N : List Str}

abbrev supNF (qual : Str) (st : Stmt) (cda cc : Addr) : NF := ⟨"__init__", qual, defArgs st, defBody st, defScope st, [("__class__", cc)], cda⟩

/-- a def that closes over __class__ alone, entered: its body runs in the frame of NdefX -/
theorem sup_fn {CX : CXT} {sp : Sp} {k : Nat} {ps : List Str} (T : ErrTxt P K mg C f cda cc qual st) (S : NScope N ps ["__class__"] (defScope st))
    (len : ∀ vs H Q E, sp vs H Q E → vs.length = ps.length)
    (hb : ∀ (oc : Value) (od an : Option Addr) (kV doc pm ct : Value) (us : List Value), us.length = ps.length →
      bindArgs (PySem.W.fnX "__init__" qual (defArgs st) (defBody st) (defScope st) [("__class__", cc)] .none kV doc pm an (.ref cda) ct) ⟨us, []⟩ = pure (ps.zip us))
    (hbody : ∀ (A : Around) (outer : List Env) (s : Shared) (H : Hp) (vs : List V) (Q : VK) (E : XK), sp vs H Q E → Room k (ncx CX P w K mg base N (supNF qual st cda cc) f A outer s H E).A →
      ∀ s1, L2.Inv (ncx CX P w K mg base N (supNF qual st cda cc) f A outer s H E) [] (startF N vs [none]) H s1 →
        _root_.PySem.wpAt (model P w) (ncx CX P w K mg base N (supNF qual st cda cc) f A outer s H E).A (.func (defBody st) (ncx CX P w K mg base N (supNF qual st cda cc) f A outer s H E).env)
          (execs (defBody st) (ncx CX P w K mg base N (supNF qual st cda cc) f A outer s H E).env)
          (SP (ncx CX P w K mg base N (supNF qual st cda cc) f A outer s H E) [] { nx := fun _ H' => Q .non H', rt := Q })
          (ncx CX P w K mg base N (supNF qual st cda cc) f A outer s H E).xe s1) :
    ∃ fd, FnOk P w K mg base CX (k + 1) f fd ps sp ∧ Binds K fd ps [] := by
  obtain ⟨oc, od, an, kV, doc, pm, ct, osl, lf⟩ := T.fn
  obtain ⟨oc2, lcell, dcell⟩ := T.cell
  refine ⟨_, ⟨len, fun A outer s H args us vs Q E hr e0 hbd r hsp => ?_⟩, Binds.all (hb oc od an kV doc pm ct)⟩
  have hl := len _ _ _ _ hsp
  have KX : K.In s.heap := e0.mod.kin.keeps fun b o e => (e0.bs b o e).1
  have lim : s.heap.NoLimit := e0.mod.nolimit.keeps fun b o e => (e0.bs b o e).1
  have hH : H cc = none := (e0.bs cc oc2 (e0.mod.kin _ _ lcell)).2
  have CA : CellsAt [("__class__", cc)] ["__class__"] [none] s.heap H := {
    len := rfl
    all := fun y c h => by
      have h' : (if y = ("__class__" : Str) then some cc else none) = some c := by
        by_cases e : y = ("__class__" : Str)
        · subst e; exact h
        · have q : (y == ("__class__" : Str)) = false := by simpa using e
          have z : List.lookup y [(("__class__" : Str), cc)] = none := by simp [List.lookup, q]
          rw [z] at h; cases h
      split at h'
      · cases h'
        exact ⟨hH, some (.ref C), oc2, KX _ _ lcell, dcell⟩
      · cases h'
    inj := fun x y c h1 h2 => by
      have key : ∀ z : Str, List.lookup z [(("__class__" : Str), cc)] = some c → z = "__class__" := fun z hz => by
        by_cases e : z = ("__class__" : Str)
        · exact e
        · have q : (z == ("__class__" : Str)) = false := by simpa using e
          have w : List.lookup z [(("__class__" : Str), cc)] = none := by simp [List.lookup, q]
          rw [w] at hz; cases hz
      exact (key x h1).trans (key y h2).symm
    has := fun i y h => by
      match i, h with
      | 0, h =>
        have e : ("__class__" : Str) = y := Option.some.inj h
        subst e
        exact ⟨cc, by simp [List.lookup], fun v z => by cases z⟩
      | i + 1, h => cases h }
  refine ks_codeAny_call_defAt (binds := ps.zip us) hr.depth (KX _ _ lf) rfl lim (PySem.W.codeRec_of KX T.code) rfl hbd S.nocell (fun ⟨n, _⟩ hy => S.par n (List.of_mem_zip hy).1) (fun h1 hns kp => ?_) S.co S.gen S.kind
  have I : L2.Inv (ncx CX P w K mg base N (supNF qual st cda cc) f A outer s H E) [] (startF N vs [none]) H { s with heap := h1, toks := s.toks + (ps.zip us).length } :=
    inv_startN S hr.hd e0 hl r CA hns kp
  refine _root_.PySem.wpAt_mono (hbody A outer s H vs Q E hsp (hr.deeper _) _ I) (fun fl s' hs => ?_) fun e s' hs => hs
  cases fl with
  | ret u =>
    obtain ⟨v, σ', H', J, rv, q⟩ := hs
    exact ⟨v, H', J.os, J.bare, J.base, J.hok, rv, q⟩
  | next =>
    obtain ⟨σ', H', J, q⟩ := hs
    exact ⟨V.non, H', J.os, J.bare, J.base, J.hok, rfl, q⟩
  | brk =>
    obtain ⟨_, _, _, q⟩ := hs
    exact False.elim q
  | cont =>
    obtain ⟨_, _, _, q⟩ := hs
    exact False.elim q
end

section
variable {P : Program} {w : World} {K : PySem.W.Frag} {mg : Str → Option Value} {base : Heap} {C f cda cc : Addr} {qual pn : Str} {st : Stmt} {N : List Str}

/-- the body: super().__init__(e), then one statement more -/
theorem two_run {X : Cx} {σ : L2.St} {H : Hp} {s : Shared} {a : Addr} {e : Expr} {te : TE} {t2 : TS} {st2 : Stmt} {body : List Stmt} {p0 p1 p2 p3 p4 : Pos} {scope : Scope} {ar : Arg} {D : Ends}
    (T : ErrTxt X.prog X.K X.mg C f cda cc qual st) (I : L2.Inv X [] σ H s)
    (henv : X.env = PySem.W.envX qual scope X.env.locals f (.ref cda) [("__class__", cc)])
    (hks : scope.names.lookup ("super" : Str) = some .globalImplicit) (hkc : scope.names.lookup ("__class__" : Str) = some .free)
    (hka : scope.names.lookup ar.arg = some .local)
    (har : ((defArgs st).posonlyargs ++ (defArgs st).args).head? = some ar)
    (h0 : X.N[0]? = some ar.arg) (hs0 : σ[0]? = some (some (V.ref a))) (ha : H a = some (exo a C none))
    (he : PE X e te) (h2 : PS X st2 t2) (hq : te σ H fun x H1 => [x].length ≤ 1 ∧ H1 a = some (exo a C none) ∧ t2 D σ H1) {pl : Sem Bool}
    (hform : eval (.Call (.Attribute (.Call (.Name "super" p0) [] [] p1) "__init__" p2) [e] [] p3) X.env = (do
      let ov ← attributeBase (.Call (.Name "super" p0) [] [] p1) "__init__" X.env (eval (.Call (.Name "super" p0) [] [] p1) X.env)
      standAt p2.atName
      let (g, first) ← holding [ov] (getMethod ov "__init__" pl)
      callWith p3 g first (backTo p3 (starEach [e] X.env)) []) := by rfl)
    (hse : starEach [e] X.env = (false, eval e X.env) :: starEach [] X.env := by rfl) (hi : interactive X.env = false := by rfl) :
    _root_.PySem.wpAt (model X.prog X.w) X.A (.func body X.env)
      (execs [.Expr (.Call (.Attribute (.Call (.Name "super" p0) [] [] p1) "__init__" p2) [e] [] p3) p4, st2] X.env) (SP X [] D) X.xe s := by
  refine ks_wpAt_execs_cons (ks_wpAt_Expr_any ?_ hi)
  refine _root_.PySem.wpAt_mono (super_init (Q := fun H1 => t2 D σ H1) T I henv hks hkc hka har h0 hs0 ha he hq hform hse) (fun v s' hh => ?_) fun _ _ z => z
  obtain ⟨H1, I1, q⟩ := hh
  exact _root_.PySem.wpAt_of_wpAny ((pss_one h2).run [] s' σ H1 D I1 q)

theorem form_of (env : Env) {p0 p1 p2 p3 q4 : Pos} {ps : List Expr} (hln : (p2.endLine == p3.line) = true) : eval (.Call (.Attribute (.Call (.Name "super" p0) [] [] p1) "__init__" p2) [.JoinedStr ps q4] [] p3) env = (do
      let ov ← attributeBase (.Call (.Name "super" p0) [] [] p1) "__init__" env (eval (.Call (.Name "super" p0) [] [] p1) env)
      standAt p2.atName
      let (g, first) ← holding [ov] (getMethod ov "__init__" (do return (← importBound (.Call (.Name "super" p0) [] [] p1) env).getD true))
      callWith p3 g first (backTo p3 (starEach [.JoinedStr ps q4] env)) []) := by
  have hp : methodCallPos true (.Call (.Name "super" p0) [] [] p1) env p2 p3 = pure p3 := by
    unfold methodCallPos
    rw [hln]
    rfl
  show (do
    let ov ← attributeBase (.Call (.Name "super" p0) [] [] p1) "__init__" env (eval (.Call (.Name "super" p0) [] [] p1) env)
    standAt p2.atName
    let (g, first) ← holding [ov] (getMethod ov "__init__" (do return (← importBound (.Call (.Name "super" p0) [] [] p1) env).getD true))
    let cp ← methodCallPos true (.Call (.Name "super" p0) [] [] p1) env p2 p3
    callWith cp g first (backTo p3 (starEach [.JoinedStr ps q4] env)) []) = _
  rw [hp]
  rfl
theorem lit_small {lit : Str} (hl : lit.length ≤ 1000) : (Str.empty ++ lit).length ≤ 1000 := by
  rw [Str.length_append]
  exact Nat.le_trans (Nat.le_of_eq (Nat.zero_add _)) hl
theorem err_int {lit : Str} {j : Nat} {q1 q2 q3 q4 p0 p1 p2 p3 p4 r1 r2 r3 r4 : Pos} {ar : Arg} (T : ErrTxt P K mg C f cda cc qual st)
    (hbd : defBody st = [.Expr (.Call (.Attribute (.Call (.Name "super" p0) [] [] p1) "__init__" p2) [.JoinedStr [.Constant (.str lit) j q1, .FormattedValue (.Name pn q2) (-1) none q3] q4] [] p3) p4,
      .Assign [.Attribute (.Name "self" r1) pn r2] (.Name pn r3) r4]) (hln : (p2.endLine == p3.line) = true)
    (S : NScope ["self", pn, "__class__"] ["self", pn] ["__class__"] (defScope st))
    (hb : ∀ (oc : Value) (od an : Option Addr) (kV doc pm ct : Value) (us : List Value), us.length = 2 →
      bindArgs (PySem.W.fnX "__init__" qual (defArgs st) (defBody st) (defScope st) [("__class__", cc)] .none kV doc pm an (.ref cda) ct) ⟨us, []⟩ = pure ((["self", pn] : List Str).zip us))
    (hks : (defScope st).names.lookup ("super" : Str) = some .globalImplicit)
    (har : ((defArgs st).posonlyargs ++ (defArgs st).args).head? = some ar) (har2 : ar.arg = "self")
    (hd1 : (pn == ("__debug__" : Str)) = false) (hd2 : (pn == ("__classdict__" : Str)) = false)
    (hlit : lit.length ≤ 1000) (hno : PySem.W.findIn K (.ref C) pn = some none) :
    ∃ fd, FnOk P w K mg base CX0 2 f fd ["self", pn] (spErr C pn okInt) ∧ Binds K fd ["self", pn] [] := by
  refine sup_fn T S (fun vs H Q E h => ?_) hb fun A outer s H vs Q E hsp hroom s1 I => ?_
  · obtain ⟨a, v, rfl, _⟩ := h
    rfl
  · obtain ⟨a, v, rfl, ha, ⟨i, rfl, hi⟩, hQ⟩ := hsp
    have vN : Vis (ncx CX0 P w K mg base ["self", pn, "__class__"] (supNF qual st cda cc) f A outer s H E).env.scope pn := .inl (S.par _ (by simp))
    have vS : Vis (ncx CX0 P w K mg base ["self", pn, "__class__"] (supNF qual st cda cc) f A outer s H E).env.scope "self" := .inl (S.par _ (by simp))
    rw [hbd]
    refine two_run (te := fun σ H Q => tJs [tC (.str lit), tFmt (tVar 1)] Str.empty σ H fun out H1 => Q (.str out) H1) T I rfl hks (S.frk _ (by simp)) (by rw [har2]; exact S.par _ (by simp)) har (by rw [har2]; rfl) rfl ha
      (pe_joined (.cons pe_str (.cons (pe_fmt (pe_var (i := 1) rfl vN hd1 hd2)) .nil)))
      (ps_ost (pe_var (i := 0) rfl vS) (pe_var (i := 1) rfl vN hd1 hd2)) ?_ (form_of _ hln) (by rfl) (by show ((defScope st).kind == _ && _) = false; rw [S.kind]; rfl)
    have e0 := lit_small hlit
    have e1 := int_text_length_le (k := 1920) (by decide) hi
    refine ⟨lit, rfl, by rw [sizeLine_eq]; omega, _, rfl, .inr ⟨i, rfl, hi, Str.ofString (toString i), rfl, ?_, Nat.le_refl _, ha, ?_⟩⟩
    · rw [Str.length_append, PySem.ofString_length, sizeLine_eq]
      omega
    · exact ⟨_, rfl, _, rfl, a, C, rfl, T.oex, hno, .inl ⟨ha, fun dx h1 h2 => hQ dx h1 h2⟩⟩
/-- the same where the argument is a text, shown by its repr -/
theorem err_txt {lit : Str} {j : Nat} {q1 q2 q3 q4 p0 p1 p2 p3 p4 r1 r2 r3 r4 : Pos} {ar : Arg} (T : ErrTxt P K mg C f cda cc qual st)
    (hbd : defBody st = [.Expr (.Call (.Attribute (.Call (.Name "super" p0) [] [] p1) "__init__" p2) [.JoinedStr [.Constant (.str lit) j q1, .FormattedValue (.Name pn q2) 114 none q3] q4] [] p3) p4,
      .Assign [.Attribute (.Name "self" r1) pn r2] (.Name pn r3) r4]) (hln : (p2.endLine == p3.line) = true)
    (S : NScope ["self", pn, "__class__"] ["self", pn] ["__class__"] (defScope st))
    (hb : ∀ (oc : Value) (od an : Option Addr) (kV doc pm ct : Value) (us : List Value), us.length = 2 →
      bindArgs (PySem.W.fnX "__init__" qual (defArgs st) (defBody st) (defScope st) [("__class__", cc)] .none kV doc pm an (.ref cda) ct) ⟨us, []⟩ = pure ((["self", pn] : List Str).zip us))
    (hks : (defScope st).names.lookup ("super" : Str) = some .globalImplicit)
    (har : ((defArgs st).posonlyargs ++ (defArgs st).args).head? = some ar) (har2 : ar.arg = "self")
    (hd1 : (pn == ("__debug__" : Str)) = false) (hd2 : (pn == ("__classdict__" : Str)) = false)
    (hlit : lit.length ≤ 1000) (hno : PySem.W.findIn K (.ref C) pn = some none) :
    ∃ fd, FnOk P w K mg base CX0 2 f fd ["self", pn] (spErr C pn okTxt) ∧ Binds K fd ["self", pn] [] := by
  refine sup_fn T S (fun vs H Q E h => ?_) hb fun A outer s H vs Q E hsp hroom s1 I => ?_
  · obtain ⟨a, v, rfl, _⟩ := h
    rfl
  · obtain ⟨a, v, rfl, ha, ⟨y, rfl, hy⟩, hQ⟩ := hsp
    have vN : Vis (ncx CX0 P w K mg base ["self", pn, "__class__"] (supNF qual st cda cc) f A outer s H E).env.scope pn := .inl (S.par _ (by simp))
    have vS : Vis (ncx CX0 P w K mg base ["self", pn, "__class__"] (supNF qual st cda cc) f A outer s H E).env.scope "self" := .inl (S.par _ (by simp))
    rw [hbd]
    refine two_run (te := fun σ H Q => tJs [tC (.str lit), tFmtR (tVar 1)] Str.empty σ H fun out H1 => Q (.str out) H1) T I rfl hks (S.frk _ (by simp)) (by rw [har2]; exact S.par _ (by simp)) har (by rw [har2]; rfl) rfl ha
      (pe_joined (.cons pe_str (.cons (pe_fmtR (pe_var (i := 1) rfl vN hd1 hd2)) .nil)))
      (ps_ost (pe_var (i := 0) rfl vS) (pe_var (i := 1) rfl vN hd1 hd2)) ?_ (form_of _ hln) (by rfl) (by show ((defScope st).kind == _ && _) = false; rw [S.kind]; rfl)
    have e0 := lit_small hlit
    refine ⟨lit, rfl, by rw [sizeLine_eq]; omega, _, rfl, .inl ⟨y, rfl, by rw [sizeLine_eq]; omega, reprText y, rfl, ?_, Nat.le_refl _, ha, ?_⟩⟩
    · rw [Str.length_append, sizeLine_eq]
      omega
    · exact ⟨_, rfl, _, rfl, a, C, rfl, T.oex, hno, .inl ⟨ha, fun dx h1 h2 => hQ dx h1 h2⟩⟩
end

/-! ### an own error, ready to be raised and caught -/
structure ErrOk (P : Program) (w : World) (K : PySem.W.Frag) (mg : Str → Option Value) (base : Heap) (nm : Str) (C : Addr) (fl : Str) (ok : V → Prop) : Prop where
  oex : OexC K C
  xf : XfC K C
  g : mg nm = some (.ref C)
  no : PySem.W.findIn K (.ref C) fl = some none
  te : PySem.W.exmOne K (.ref C) (.ref C) = some true
  run : ∃ (f : Addr) (fd : FuncData), PySem.W.findIn K (.ref C) "__init__" = some (some (.ref f)) ∧ PySem.W.typeIn K (.ref f) = some (.type "function") ∧
    FnOk P w K mg base CX0 2 f fd ["self", fl] (spErr C fl ok) ∧ Binds K fd ["self", fl] []

section
variable {X : Cx} {nm : Str} {C : Addr} {fl : Str} {ok : V → Prop} {e : Expr} {ta : TA} {p pos pos2 : Pos} {W : WX}
/-- raise nm(e) -/
def tErr (C : Addr) (fl : Str) (ok : V → Prop) (ta : TA) (W : WX) : TS := fun _ σ H => tMkO C (spErr C fl ok) [] ta σ H fun cls d H' => W cls d σ H'
theorem ps_err (R : ErrOk X.prog X.w X.K X.mg X.base nm C fl ok) (hc : X.calm = true) (tk : Takes X W) (hr : Room 3 X.A) (ha : PA X [e] ta) (hg : Gl X nm)
    (hdb : (nm == ("__debug__" : Str)) = false := by decide) (he : starEach [e] X.env = (false, eval e X.env) :: starEach [] X.env := by rfl) (hpl : (backTo pos (starEach [] X.env)).any (·.1) = false := by rfl) :
    PS X (.Raise (some (.Call (.Name nm p) [e] [] pos)) none pos2) (tErr C fl ok ta W) := by
  obtain ⟨f, fd, h1, h2, h3, h4⟩ := R.run
  exact ps_raise hc tk (pmk_oex R.oex h1 h2 h3 hr h4 .nil pass0 hg R.g ha hdb he hpl)
/-- what such a raise asks: the argument is fit, and every way out is met -/
theorem err_way {H1 : Hp} {v : V} {Q : XK} (hv : ok v) (h : ∀ d, H1 d = none → Q (.ref C) (some d) (upd H1 d (.xd [(fl, v)]))) :
    [v].length ≤ 1000 ∧ ∀ a, H1 a = none → spErr C fl ok (.ref a :: ([v] ++ [])) (upd H1 a (exo a C none))
      (fun r H2 => r = .non ∧ ∃ (d : Addr) (fs : List (Str × V)), H2 a = some (exo a C (some d)) ∧ H2 d = some (exd d fs) ∧ H1 d = none ∧ Q (.ref C) (some d) (upd (del H2 a) d (.xd fs))) (fun _ _ _ => False) := by
  refine ⟨by show 1 ≤ 1000; omega, fun a hn => ⟨a, v, rfl, upd_same, hv, fun dx hdx hne => ⟨rfl, dx, _, upd_same, by rw [upd_ne hne, upd_same], ?_, ?_⟩⟩⟩
  · rw [upd_ne hne] at hdx
    exact hdx
  · have hd1 : H1 dx = none := by
      rw [upd_ne hne] at hdx
      exact hdx
    have e : upd (del (upd (upd (upd H1 a (exo a C none)) dx (exd dx [(fl, v)])) a (exo a C (some dx))) a) dx (.xd [(fl, v)]) = upd H1 dx (.xd [(fl, v)]) := by
      funext b
      by_cases hb : b = dx
      · rw [hb, upd_same, upd_same]
      · rw [upd_ne hb, upd_ne hb]
        by_cases hba : b = a
        · rw [hba, del_same, hn]
        · rw [del_ne hba, upd_ne hba, upd_ne hb, upd_ne hba]
    rw [e]
    exact h dx hd1
end
end Sup

/-! The text of a list, whatever is under way: some text of bounded length. -/
namespace Txs
open PySem PySem.Spec PyProof.Rows
section
variable {prog : Program} {w : World}
/-- the text of an item: some text of at most m signs; what stands in h0 is kept by whoever asks -/
def Tx (prog : Program) (w : World) (h0 : Heap) (m : Nat) (x : Value) : Prop :=
  ∀ (b : Nat), b + m ≤ sizeLine → ∀ (A : Around) (E : Value → Shared → Prop) (s : Shared) (Q : Str → Shared → Prop), A.units + 4 < cLine →
    (∀ c o, h0.get? c = some o → s.heap.get? c = some o) → (∀ (t : Str) (tk : Tok), t.length ≤ m → Q t { s with toks := tk }) → wpAny (model prog w) A (pyReprUnder b x) Q E s
theorem Tx.int {h0 : Heap} {i : Int} (t : Tok) (hi : i.natAbs.log2 < 1920) : Tx prog w h0 1921 (.int i t) := by
  intro b hb A E s Q _ _ h
  have e := int_text_length_le (k := 1920) (by decide) hi
  have e2 : (Str.ofString (toString i)).length ≤ 1921 := by rw [PySem.ofString_length]; exact e
  exact ReprIs.int t hi b (by omega) A E s Q fun tk => h _ tk e2
theorem Tx.mono {h0 : Heap} {m n : Nat} {x : Value} (T : Tx prog w h0 m x) (hmn : m ≤ n) : Tx prog w h0 n x := fun b hb A E s Q hu hk h =>
  T b (by omega) A E s Q hu hk fun t tk ht => h t tk (by omega)
theorem way_len : ("(...)" : Str).length ≤ 5 := by decide +kernel
/-- a tuple of things whose texts are settled -/
theorem Tx.tup {h0 : Heap} {a : Addr} {o : Obj} {items : Array Value} {n : Nat} {ts : List Str} (ha : h0.get? a = some o) (hc : o.cls = .type "tuple") (hd : o.data = .seq items n) (hT : ReprAll prog w items.toList ts) :
    Tx prog w h0 ((tupleText ts).length + 5) (.ref a) := by
  intro b hb A E s Q hu hk h
  have ha' := hk _ _ ha
  refine wpAny_pyReprUnder_ref (by omega) (wpAny_pyReprObjUnder_twin (T := "tuple") (twin := "tuple.__repr__.under") ⟨o, ha', hc⟩ F.slot_tuple_repr rfl (by omega) ?_)
  refine call_twin_own (F.quiet_tuple_repr_under _) F.entry_tuple_repr_under F.check_tuple_repr_under ⟨o, ha', hc⟩ F.slot_tuple_repr (F.args_tuple_repr_1 _) (wpOwn_of_wpAny ?_)
  show wpAny _ _ (Builtin.tupleReprAt b ⟨[.ref a], []⟩) _ _ s
  rw [tuple_repr_tree]
  refine wpAny_bind (fmt_underWay fun c => ?_)
  cases c with
  | true =>
    refine PySem.W.KFB.if_so rfl (wpAny_bind (wpAny_rule (wpAny_bind (wpAny_mkStr (wpAny_pure ?_) (by decide +kernel)))))
    exact ⟨⟨_, _, rfl⟩, _, _, rfl, h "(...)" _ (Nat.le_trans way_len (Nat.le_add_left _ _))⟩
  | false =>
    refine PySem.W.KFB.if_not rfl (wpAny_tupleReprRest ha' hd hT (fun u tk => ?_) (by omega))
    exact ⟨⟨_, _, rfl⟩, _, _, rfl, h (tupleText ts) tk (Nat.le_add_right _ _)⟩
theorem piled_le {m : Nat} : ∀ {ts : List Str}, (∀ t ∈ ts, t.length ≤ m) → piled ts ≤ (m + 2) * ts.length
  | [], _ => Nat.zero_le _
  | t :: ts, h => by
    have h1 := h t List.mem_cons_self
    have h2 := piled_le (ts := ts) fun u hu => h u (List.mem_cons_of_mem _ hu)
    rw [piled_cons, List.length_cons, Nat.mul_succ]
    omega
theorem listText_le : ∀ ts : List Str, (listText ts).length ≤ piled ts + 2
  | [] => by
    show (listText []).length ≤ 2
    rw [listText_nil]
    decide +kernel
  | t :: r => by
    have h := textFrom_length_pos r 1 (("[" : Str) ++ (if (0 : Nat) > 0 then ", " else "" : String) ++ t) (Nat.succ_pos 0)
    have e : ((("[" : Str) ++ (if (0 : Nat) > 0 then ", " else "" : String) ++ t)).length = 1 + t.length := by
      rw [strLen_append, strLen_append]; rfl
    have e3 : (listText (t :: r)).length = (textFrom 1 (("[" : Str) ++ (if (0 : Nat) > 0 then ", " else "" : String) ++ t) r).length + 1 := by
      show (textFrom 1 _ r ++ "]").length = _
      rw [strLen_append]; rfl
    rw [e3, h, e, piled_cons]
    omega
variable {A : Around} {R : Result → Shared → Prop}
theorem units_loop (A : Around) (args : Args) : (A.under (.builtin "list.__repr__.loop" args)).units ≤ A.units + 1 := by
  have e : (A.under (.builtin "list.__repr__.loop" args)).units = A.units + 1 ∨ (A.under (.builtin "list.__repr__.loop" args)).units = A.units := by
    first
      | exact .inl rfl
      | exact .inr rfl
      | simp [Around.under, Code.cUnits, Code.frames, Code.isFrame]
  rcases e with e | e <;> omega
theorem run_loop {h0 : Heap} {a Pa : Addr} {items : Array Value} {m b : Nat} (hP0 : h0.get? Pa = none) (hT : ∀ (i : Nat) (x : Value), items[i]? = some x → Tx prog w h0 m x)
    (hsz : b + ((m + 2) * items.size + 2 + m) ≤ sizeLine) (hu : A.units + 5 < cLine) {oa : Obj} {na : Nat} (ha : h0.get? a = some oa) (hda : oa.data = .seq items na) :
    ∀ (k i : Nat) (s : Shared) (acc : Array Value) (c : Nat) (done : List (Str × Tok)), items.size - i = k → i ≤ items.size → (∀ c o, h0.get? c = some o → s.heap.get? c = some o) →
    s.heap.get? Pa = some { cls := .type "list", dict := none, data := .seq acc c, slots := #[] } → acc.toList = strValues done → done.length = i → (∀ p ∈ done, p.1.length ≤ m) →
    (∀ h' (t : Str) u tk, t.length ≤ (m + 2) * items.size + 2 → (∀ b o, b ≠ Pa → s.heap.get? b = some o → h'.get? b = some o) → R (.ok (.ret (.str t u))) { s with heap := h', toks := tk }) →
    codeAny (model prog w) A (.builtin "list.__repr__.loop" ⟨[.ref a, rawInt i, .ref Pa, rawInt ((b + piled (done.map (·.1)) : Nat) : Int)], []⟩) R s := by
  intro k
  induction k with
  | zero =>
    intro i s acc c done hk hi hk0 hP hacc hdone hm hR
    have hin : i = items.size := by omega
    refine codeAny_builtin F.entry_list_repr_loop ?_
    show wpAny _ _ (Builtin.«list.__repr__.loop» ⟨[.ref a, .int i 0, .ref Pa, .int ((b + piled (done.map (·.1)) : Nat) : Int) 0], []⟩) _ _ s
    rw [repr_loop_tree]
    refine wpAny_bind (wpAny_listItems (hk0 _ _ ha) hda ?_)
    have hnone : items[(i : Int).toNat]? = none := by simp [hin]
    simp only [hnone]
    unfold reprEnd
    refine wpAny_bind (wpAny_listItems hP rfl ?_)
    rw [hacc, repr_fold]
    have hpl := piled_le (m := m) (ts := done.map (·.1)) fun t ht => by
      obtain ⟨p, hp, rfl⟩ := List.mem_map.mp ht
      exact hm p hp
    have hlt := listText_le (done.map (·.1))
    rw [List.length_map, hdone, hin] at hpl
    refine wpAny_bind (wpAny_pure (wpAny_bind (wpAny_mkStr (wpAny_pure ?_) (show (listText (done.map (·.1))).length ≤ sizeLine by omega))))
    exact hR s.heap (listText (done.map (·.1))) _ _ (by omega) (fun _ _ _ e => e)
  | succ k ih =>
    intro i s acc c done hk hi hk0 hP hacc hdone hm hR
    have hlt : i < items.size := by omega
    have hrep := hT i items[i] (by simp [hlt])
    have hpl := piled_le (m := m) (ts := done.map (·.1)) fun t ht => by
      obtain ⟨p, hp, rfl⟩ := List.mem_map.mp ht
      exact hm p hp
    rw [List.length_map, hdone] at hpl
    have hmul : (m + 2) * i ≤ (m + 2) * items.size := Nat.mul_le_mul_left _ hi
    refine codeAny_builtin F.entry_list_repr_loop ?_
    show wpAny _ _ (Builtin.«list.__repr__.loop» ⟨[.ref a, .int i 0, .ref Pa, .int ((b + piled (done.map (·.1)) : Nat) : Int) 0], []⟩) _ _ s
    rw [repr_loop_tree]
    refine wpAny_bind (wpAny_listItems (hk0 _ _ ha) hda ?_)
    have hsome : items[(i : Int).toNat]? = some items[i] := by simp [hlt]
    simp only [hsome]
    rw [Int.toNat_natCast]
    have hul := units_loop A ⟨[.ref a, .int i 0, .ref Pa, .int ((b + piled (done.map (·.1)) : Nat) : Int) 0], []⟩
    refine wpAny_bind (wpAny_holding (hrep (b + piled (done.map (·.1)) + 1) (by omega) _ _ _ _ (Nat.lt_of_le_of_lt (Nat.add_le_add_right hul 4) (by omega)) hk0 fun t tk ht => ?_))
    refine wpAny_bind (wpAny_mkStr ?_ (show t.length ≤ sizeLine by omega))
    refine wpAny_bind ?_
    show wpAny _ _ (updateSeq Pa _) _ _ _
    have hasz : acc.size ≤ sizeLine := by
      have e1 : acc.toList.length = acc.size := by simp
      have e2 : (strValues done).length = done.length := by simp [strValues]
      have e3 : i ≤ (m + 2) * items.size := Nat.le_trans hi (Nat.le_mul_of_pos_left _ (by omega))
      rw [hacc] at e1; omega
    refine wpAny_updateSeq hP rfl (wpAny_pure ⟨F.quiet_list_repr_loop _, ?_⟩) hasz
    have e1 : ((i : Int) + 1) = ((i + 1 : Nat) : Int) := by omega
    have e2 : b + piled (done.map (·.1)) + (t.length + 2) = b + piled ((done ++ [(t, tk)]).map (·.1)) := by
      rw [List.map_append, piled_append]
      simp [piled]
      omega
    rw [e1]
    show codeAny _ _ (.builtin "list.__repr__.loop" ⟨[.ref a, rawInt ((i + 1 : Nat) : Int), .ref Pa, rawInt ((b + piled (done.map (·.1)) + (t.length + 2) : Nat) : Int)], []⟩) _ _
    rw [e2]
    have nP : ∀ c o, h0.get? c = some o → Pa ≠ c := fun c o e z => by
      rw [z, e] at hP0
      cases hP0
    refine ih (i + 1) _ (acc.push (.str t tk)) _ (done ++ [(t, tk)]) (by omega) hlt (fun c o e => (Heap.get?_update_other _ _ (nP c o e)).trans (hk0 c o e)) (Heap.get?_update_self _ hP rfl) (by simp [hacc, strValues]) (by rw [List.length_append, hdone]; rfl)
      (fun p hp => ?_) fun h' t' u tk' ht' hh => ?_
    · rcases List.mem_append.mp hp with z | z
      · exact hm p z
      · rw [List.mem_singleton.mp z]
        exact ht
    · exact hR h' t' u tk' ht' fun b o hb e => hh b o hb ((Heap.get?_update_other _ _ (fun z : Pa = b => hb z.symm)).trans e)
end
section
variable {prog : Program} {w : World} {A : Around} {E : Value → Shared → Prop} {s : Shared}
/-- {xs}, a list: some text -/
theorem fmt_list {a : Addr} {items : Array Value} {n m : Nat} {Q : Value → Shared → Prop} (hu : A.units + 8 < cLine) (ha : s.heap.get? a = some { cls := .type "list", data := .seq items n })
    (hT : ∀ (i : Nat) (x : Value), items[i]? = some x → Tx prog w s.heap m x) (hsz : (m + 2) * items.size + 2 + m ≤ sizeLine)
    (h : ∀ h' (t : Str) (u : Tok) tk, t.length ≤ (m + 2) * items.size + 5 → (∀ b o, s.heap.get? b = some o → h'.get? b = some o) → Q (.str t u) { s with heap := h', toks := tk }) : wpAny (model prog w) A (formatField (.ref a) Str.empty) Q E s := by
  refine wpAny_formatField_slot (T := "list") (idr := "list.__repr__") (fun _ _ => nofun) (by omega) ⟨_, ha, rfl⟩ F.slot_list_format F.slot_list_str F.slot_list_repr.toG ?_
  have hs0 : ({ s with toks := s.toks + 1 } : Shared).heap = s.heap := rfl
  refine wpAny_call (codeAny_call_builtin F.slot_list_repr.plain F.entry_list_repr (F.slot_list_repr.check _ _ _ _ _ _ _ _ ⟨_, ha, rfl⟩ (F.args_list_repr_1 _) ?_))
  show wpAny _ _ (Builtin.listReprAt 0 ⟨[.ref a], []⟩) _ _ { s with toks := s.toks + 1 }
  have fin : ∀ h' (t : Str) (u : Tok) tk, t.length ≤ (m + 2) * items.size + 5 → (∀ b o, s.heap.get? b = some o → h'.get? b = some o) → ∃ x t', Value.str t u = .str x t' ∧ Q (.str t u) { s with heap := h', toks := tk } :=
    fun h' t u tk h1 h2 => ⟨t, u, rfl, h h' t u tk h1 h2⟩
  unfold Builtin.listReprAt
  refine wpAny_bind (wpAny_of_eq (a := (Value.ref a, ([] : List Value))) (by first | rfl | (simp only [slotArgs]; rfl)) ?_)
  show wpAny _ _ (Builtin.List.listItems (.ref a) >>= _) _ _ { s with toks := s.toks + 1 }
  refine wpAny_bind (wpAny_listItems (s := { s with toks := s.toks + 1 }) ha rfl ?_)
  by_cases he : items.isEmpty = true
  · refine PySem.W.KFB.if_so he (wpAny_bind (wpAny_rule ?_))
    refine wpAny_bind (wpAny_mkStr (wpAny_pure ?_) (by decide +kernel))
    exact fin s.heap _ _ _ (Nat.le_trans (by decide +kernel : ("[]" : Str).length ≤ 5) (Nat.le_add_left _ _)) fun _ _ e => e
  · refine PySem.W.KFB.if_not (by simpa using he) ?_
    refine wpAny_bind (wpAny_stack_any fun st => ?_)
    dsimp only
    refine wpAny_ite_split (fun _ => ?_) (fun _ => ?_)
    · refine wpAny_bind (wpAny_rule ?_)
      refine wpAny_bind (wpAny_mkStr (wpAny_pure ?_) (by decide +kernel))
      exact fin s.heap _ _ _ (Nat.le_trans (by decide +kernel : ("[...]" : Str).length ≤ 5) (Nat.le_add_left _ _)) fun _ _ e => e
    · refine wpAny_bind (m := newList []) (wpAny_newObj_type ?_)
      refine wpAny_pure ⟨F.quiet_list_repr_loop _, ?_⟩
      have q := run_loop (prog := prog) (w := w) (A := A.in1.in1) (h0 := s.heap) (a := a) (Pa := s.heap.objs.size) (items := items) (m := m) (b := 0) (R := fun r s' => match r with
          | .ok (.ret v) => ∃ x t, v = Value.str x t ∧ Q v s'
          | .ok _ => False
          | .error e => E e s') (Heap.get?_none_of_le (Nat.le_refl _)) hT (by omega) (by show A.units + 2 + 5 < cLine; omega) ha rfl items.size 0
          { s with heap := s.heap.push { cls := .type "list", data := .seq #[] }, toks := s.toks + 1 } #[] 0 [] (by omega) (by omega) (fun c o e => Heap.get?_push_of_some _ e) (Heap.get?_push_size _ rfl) rfl rfl (fun p hp => absurd hp (by simp)) ?_
      · exact q
      · intro h' t u tk ht hk
        exact fin h' t u tk (by omega) fun b o e => hk b o (Nat.ne_of_lt (Heap.lt_size e)) (Heap.get?_push_of_some _ e)
end
end Txs
namespace Sup
open PySem PySem.Spec PyProof.Rows L2
/-- what a shown list may hold: whole numbers, tuples of whole numbers -/
def Shown (H : Hp) (xs : List V) : Prop := ∀ v ∈ xs, (∃ i : Int, v = .int i ∧ i.natAbs.log2 < 1920) ∨ ∃ (t : Addr) (ns : List Int), v = .ref t ∧ H t = some (.tup (ns.map V.int)) ∧ ns.length ≤ 10 ∧ ∀ i ∈ ns, i.natAbs.log2 < 1920
theorem reprs_int {prog : Program} {w : World} : ∀ {ns : List Int} {its : List Value}, Vals (ns.map V.int) its → (∀ i ∈ ns, i.natAbs.log2 < 1920) → ReprAll prog w its (ns.map fun i => Str.ofString (toString i))
  | [], _, r, _ => by
    cases r
    exact .nil
  | i :: ns, _, r, h => by
    cases r with
    | cons r1 r2 =>
      obtain ⟨t, rfl⟩ := r1
      exact .cons (ReprIs.int t (h i List.mem_cons_self)) (reprs_int r2 fun z hz => h z (List.mem_cons_of_mem _ hz))
def tFmtL (te : TE) : TE := fun σ H Q => te σ H fun x H1 => ∃ (a : Addr) (xs : List V), x = .ref a ∧ H1 a = some (.lst xs) ∧ xs.length ≤ 60 ∧ Shown H1 xs ∧ ∀ y : Str, y.length ≤ 2000000 → Q (.str y) H1
theorem pe_fmtL {X : Cx} {e : Expr} {te : TE} {pos : Pos} (hu : X.A.units + 64 < cLine) (he : PE X e te) : PE X (.FormattedValue e (-1) none pos) (tFmtL te) := by
  refine ⟨fun pins s σ H Q I h => ?_⟩
  refine wpAny_FormattedValue_plain (thn (he.run pins s σ H _ I h) fun v s1 hv => ?_)
  obtain ⟨x, H1, I1, r1, a, xs, rfl, ht, hlen, hsh, q⟩ := hv
  cases r1
  obtain ⟨_, its, n, rv, ho⟩ := (show ObjOk X.prog X.w H1 s1.heap a (.lst xs) from I1.hok a _ ht)
  have hl : its.length = xs.length := rv.length.symm
  have hsz : (20000 + 2) * its.toArray.size + 2 + 20000 ≤ sizeLine := by
    rw [List.size_toArray, hl, sizeLine_eq]
    omega
  refine Txs.fmt_list (m := 20000) (by omega) ho (fun i y hy => ?_) hsz fun h' t u tk htl hk => ⟨.str t, H1, I1.kept hk, ⟨u, rfl⟩, q t ?_⟩
  · have hy' : its[i]? = some y := by simpa using hy
    have hi : i < xs.length := by
      rw [← hl]
      exact (List.getElem?_eq_some_iff.mp hy').1
    obtain ⟨u, hu', ru⟩ := rv.get (List.getElem?_eq_getElem hi)
    rw [hy'] at hu'
    obtain rfl := Option.some.inj hu'
    rcases hsh _ (List.getElem_mem hi) with ⟨j, ej, hj⟩ | ⟨t, ns, et, htt, h10, hns⟩
    · rw [ej] at ru
      obtain ⟨tk, rfl⟩ := ru
      exact (Txs.Tx.int tk hj).mono (by decide)
    · rw [et] at ru
      obtain rfl : y = Value.ref t := ru
      obtain ⟨its2, r2, ⟨o, ho2, hc2, n2, hd2⟩, _⟩ := I1.tuple (.inl (.inl htt))
      have T := Txs.Tx.tup (prog := X.prog) (w := X.w) (h0 := s1.heap) ho2 hc2 hd2 (reprs_int r2 hns)
      refine T.mono ?_
      have h1 := fmt_text (ns.map fun i => Str.ofString (toString i))
      have h2 := Txs.piled_le (m := 1921) (ts := ns.map fun i => Str.ofString (toString i)) fun z hz => by
        obtain ⟨i, hi, rfl⟩ := List.mem_map.mp hz
        have e := int_text_length_le (k := 1920) (by decide) (hns i hi)
        rw [PySem.ofString_length]
        exact e
      rw [List.length_map] at h2
      have h3 : (1921 + 2) * ns.length ≤ (1921 + 2) * 10 := Nat.mul_le_mul_left _ h10
      omega
  · rw [List.size_toArray, hl] at htl
    omega
end Sup

namespace Sup
open PySem PySem.Spec PyProof.Rows L2 NdefX
/-- the form of super().__init__('..') -/
theorem form_const (env : Env) {p0 p1 p2 p3 q : Pos} {c : Const} {j : Nat} (hln : (p2.endLine == p3.line) = true) : eval (.Call (.Attribute (.Call (.Name "super" p0) [] [] p1) "__init__" p2) [.Constant c j q] [] p3) env = (do
      let ov ← attributeBase (.Call (.Name "super" p0) [] [] p1) "__init__" env (eval (.Call (.Name "super" p0) [] [] p1) env)
      standAt p2.atName
      let (g, first) ← holding [ov] (getMethod ov "__init__" (do return (← importBound (.Call (.Name "super" p0) [] [] p1) env).getD true))
      callWith p3 g first (backTo p3 (starEach [.Constant c j q] env)) []) := by
  have hp : methodCallPos true (.Call (.Name "super" p0) [] [] p1) env p2 p3 = pure p3 := by
    unfold methodCallPos
    rw [hln]
    rfl
  show (do
    let ov ← attributeBase (.Call (.Name "super" p0) [] [] p1) "__init__" env (eval (.Call (.Name "super" p0) [] [] p1) env)
    standAt p2.atName
    let (g, first) ← holding [ov] (getMethod ov "__init__" (do return (← importBound (.Call (.Name "super" p0) [] [] p1) env).getD true))
    let cp ← methodCallPos true (.Call (.Name "super" p0) [] [] p1) env p2 p3
    callWith cp g first (backTo p3 (starEach [.Constant c j q] env)) []) = _
  rw [hp]
  rfl
/-- an error without a field is made -/
def spErr0 (C : Addr) : Sp := fun vs H Q _ => ∃ a : Addr, vs = [.ref a] ∧ H a = some (exo a C none) ∧ Q .non H
/-- an error that keeps a copy of a list -/
def spErrL (C : Addr) (fl : Str) : Sp := fun vs H Q _ => ∃ (a l : Addr) (xs : List V), vs = [.ref a, .ref l] ∧ H a = some (exo a C none) ∧ H l = some (.lst xs) ∧ xs.length ≤ 60 ∧ Shown H xs ∧
  ∀ c dx, H c = none → H dx = none → dx ≠ a → c ≠ a → dx ≠ c → Q .non (upd (upd (upd H c (.lst xs)) dx (exd dx [(fl, .ref c)])) a (exo a C (some dx)))
section
variable {P : Program} {w : World} {K : PySem.W.Frag} {mg : Str → Option Value} {base : Heap} {C f cda cc : Addr} {qual pn : Str} {st : Stmt} {N : List Str}
theorem err_nil {lit : Str} {j : Nat} {q1 p0 p1 p2 p3 p4 : Pos} {ar : Arg} (T : ErrTxt P K mg C f cda cc qual st)
    (hbd : defBody st = [.Expr (.Call (.Attribute (.Call (.Name "super" p0) [] [] p1) "__init__" p2) [.Constant (.str lit) j q1] [] p3) p4]) (hln : (p2.endLine == p3.line) = true)
    (S : NScope ["self", "__class__"] ["self"] ["__class__"] (defScope st))
    (hb : ∀ (oc : Value) (od an : Option Addr) (kV doc pm ct : Value) (us : List Value), us.length = 1 →
      bindArgs (PySem.W.fnX "__init__" qual (defArgs st) (defBody st) (defScope st) [("__class__", cc)] .none kV doc pm an (.ref cda) ct) ⟨us, []⟩ = pure ((["self"] : List Str).zip us))
    (hks : (defScope st).names.lookup ("super" : Str) = some .globalImplicit)
    (har : ((defArgs st).posonlyargs ++ (defArgs st).args).head? = some ar) (har2 : ar.arg = "self") :
    ∃ fd, FnOk P w K mg base CX0 2 f fd ["self"] (spErr0 C) ∧ Binds K fd ["self"] [] := by
  refine sup_fn T S (fun vs H Q E h => ?_) hb fun A outer s H vs Q E hsp hroom s1 I => ?_
  · obtain ⟨a, rfl, _⟩ := h
    rfl
  · obtain ⟨a, rfl, ha, hQ⟩ := hsp
    rw [hbd]
    refine ks_wpAt_execs_cons (ks_wpAt_Expr_any ?_ (by show ((defScope st).kind == _ && _) = false; rw [S.kind]; rfl))
    refine _root_.PySem.wpAt_mono (super_init (Q := fun H1 => Q .non H1) T I rfl hks (S.frk _ (by simp)) (by rw [har2]; exact S.par _ (by simp)) har (by rw [har2]; rfl) rfl ha
      (pe_str (x := lit)) ⟨Nat.le_refl _, ha, hQ⟩ (form_const _ hln) (by rfl)) (fun v s' hh => ?_) fun _ _ z => z
    obtain ⟨H1, I1, q⟩ := hh
    exact _root_.PySem.wpAt_of_wpAny (pss_nil.run [] s' _ H1 { nx := fun _ H' => Q .non H', rt := Q } I1 q)
theorem err_lst {lit : Str} {j : Nat} {q1 q2 q3 q4 p0 p1 p2 p3 p4 r1 r2 r3 r4 r5 r6 : Pos} {ar : Arg} (T : ErrTxt P K mg C f cda cc qual st)
    (hbd : defBody st = [.Expr (.Call (.Attribute (.Call (.Name "super" p0) [] [] p1) "__init__" p2) [.JoinedStr [.Constant (.str lit) j q1, .FormattedValue (.Name pn q2) (-1) none q3] q4] [] p3) p4,
      .Assign [.Attribute (.Name "self" r1) pn r2] (.Call (.Name "list" r3) [.Name pn r4] [] r5) r6]) (hln : (p2.endLine == p3.line) = true)
    (S : NScope ["self", pn, "__class__"] ["self", pn] ["__class__"] (defScope st))
    (hb : ∀ (oc : Value) (od an : Option Addr) (kV doc pm ct : Value) (us : List Value), us.length = 2 →
      bindArgs (PySem.W.fnX "__init__" qual (defArgs st) (defBody st) (defScope st) [("__class__", cc)] .none kV doc pm an (.ref cda) ct) ⟨us, []⟩ = pure ((["self", pn] : List Str).zip us))
    (hks : (defScope st).names.lookup ("super" : Str) = some .globalImplicit)
    (har : ((defArgs st).posonlyargs ++ (defArgs st).args).head? = some ar) (har2 : ar.arg = "self")
    (hd1 : (pn == ("__debug__" : Str)) = false) (hd2 : (pn == ("__classdict__" : Str)) = false)
    (hlit : lit.length ≤ 1000) (hno : PySem.W.findIn K (.ref C) pn = some none)
    (hgl : (defScope st).names.lookup ("list" : Str) = some .globalImplicit) (hml : mg "list" = none) :
    ∃ fd, FnOk P w K mg base CX0 2 f fd ["self", pn] (spErrL C pn) ∧ Binds K fd ["self", pn] [] := by
  refine sup_fn T S (fun vs H Q E h => ?_) hb fun A outer s H vs Q E hsp hroom s1 I => ?_
  · obtain ⟨a, l, xs, rfl, _⟩ := h
    rfl
  · obtain ⟨a, l, xs, rfl, ha, hl, h60, hsh, hQ⟩ := hsp
    have vN : Vis (ncx CX0 P w K mg base ["self", pn, "__class__"] (supNF qual st cda cc) f A outer s H E).env.scope pn := .inl (S.par _ (by simp))
    have vS : Vis (ncx CX0 P w K mg base ["self", pn, "__class__"] (supNF qual st cda cc) f A outer s H E).env.scope "self" := .inl (S.par _ (by simp))
    rw [hbd]
    refine two_run (te := fun σ H Q => tJs [tC (.str lit), tFmtL (tVar 1)] Str.empty σ H fun out H1 => Q (.str out) H1) T I rfl hks (S.frk _ (by simp)) (by rw [har2]; exact S.par _ (by simp)) har (by rw [har2]; rfl) rfl ha
      (pe_joined (.cons pe_str (.cons (pe_fmtL hroom.units (pe_var (i := 1) rfl vN hd1 hd2)) .nil)))
      (ps_ost (pe_var (i := 0) rfl vS) (pe_callTy call_list_of hgl hml (by decide +kernel) (pa_cons (pe_var (i := 1) rfl vN hd1 hd2) pa_nil))) ?_ (form_of _ hln) (by rfl) (by show ((defScope st).kind == _ && _) = false; rw [S.kind]; rfl)
    have e0 := lit_small hlit
    refine ⟨lit, rfl, by rw [sizeLine_eq]; omega, _, rfl, l, xs, rfl, hl, h60, hsh, fun y hy => ⟨y, rfl, ?_, Nat.le_refl _, ha, ?_⟩⟩
    · rw [Str.length_append, sizeLine_eq]
      omega
    · refine ⟨_, rfl, l, xs, rfl, .inl (SqL.of hl), fun c hc => ?_⟩
      have nca : c ≠ a := fun z => by
        rw [z, ha] at hc
        cases hc
      refine ⟨_, rfl, a, C, rfl, T.oex, hno, .inl ⟨by rw [upd_ne (Ne.symm nca)]; exact ha, fun dx h1 h2 => ?_⟩⟩
      have ndc : dx ≠ c := fun z => by
        rw [z, upd_same] at h1
        cases h1
      rw [upd_ne ndc] at h1
      exact hQ c dx hc h1 h2 nca ndc
end
section
variable {X : Cx} {x : Str} {C fI : Addr} {k : Nat} {fd : FuncData} {ps : List Str} {sp : Sp} {e : Expr} {es : List Expr} {ta : TA} {p pos : Pos}
/-- what follows where an own error has just been made, for positional values vs in the heap H1 -/
structure MkV (C : Addr) (sp : Sp) (vs : List V) (H1 : Hp) (Q : VK) : Prop where
  few : vs.length ≤ 1000
  run : ∀ a, H1 a = none → sp (.ref a :: vs) (upd H1 a (exo a C none)) (fun v H2 => v = .non ∧ Q (.ref a) H2) (fun _ _ _ => False)
theorem run_mkV {pins : List (Addr × Obj)} {σ : L2.St} {H1 : Hp} {s1 : Shared} {us : List Value} {vs : List V} {Q : VK} (T : OexC X.K C) (iC : PySem.W.findIn X.K (.ref C) "__init__" = some (some (.ref fI))) (tI : PySem.W.typeIn X.K (.ref fI) = some (.type "function"))
    (F1 : FnOk X.prog X.w X.K X.mg X.base CX0 k fI fd ps sp) (hr : Room (k + 1) X.A) (hb : Binds X.K fd ps []) (I1 : L2.Inv X pins σ H1 s1) (r1 : Vals vs us) (h : MkV C sp vs H1 Q) :
    wpAny (model X.prog X.w) X.A (call (.ref C) us) (EP X pins σ Q) X.xe s1 := by
  obtain ⟨nm, q, N, bs, bm, sn, sub, ab, col, dd, k0, k1, k2, k3, k5, hC, hbm⟩ := T.cls
  obtain ⟨hz, q1⟩ := h
  obtain ⟨hp, g, dr, tk, os⟩ := s1
  have hsz : hp.objs.size ≤ hp.objs.size + 1 := Nat.le_succ _
  have hn : H1 (hp.objs.size + 1) = none := I1.hok.fresh hsz
  have hq := q1 (hp.objs.size + 1) hn
  have kk : ∀ b o, hp.get? b = some o → ((hp.push (PySem.W.kdv_tup us)).push (PySem.HandSPX.excO C hp.objs.size)).get? b = some o :=
    fun b o z => Heap.get?_push_of_some _ (Heap.get?_push_of_some _ z)
  have hget : ((hp.push (PySem.W.kdv_tup us)).push (PySem.HandSPX.excO C hp.objs.size)).get? (hp.objs.size + 1) = some (PySem.HandSPX.excO C hp.objs.size) := by heap_get
  have I2 : L2.Inv X pins σ (upd H1 (hp.objs.size + 1) (exo (hp.objs.size + 1) C none)) ⟨(hp.push (PySem.W.kdv_tup us)).push (PySem.HandSPX.excO C hp.objs.size), g, dr, tk, os⟩ :=
    I1.laid (t' := tk) (a := hp.objs.size + 1) (o := exo (hp.objs.size + 1) C none)
      (h' := (hp.push (PySem.W.kdv_tup us)).push (PySem.HandSPX.excO C hp.objs.size)) kk hsz (exo_ok hget)
  have r2 : Vals (V.ref (hp.objs.size + 1) :: vs) (Value.ref (hp.objs.size + 1) :: us) := .cons rfl r1
  have hl : (Value.ref (hp.objs.size + 1) :: us).length = ps.length := by
    have e := r2.length
    rw [F1.len _ _ _ _ hq] at e
    exact e.symm
  have hus : us.length ≤ sizeLine := by
    rw [← Paired.length r1, sizeLine_eq]
    omega
  have hbd := hb _ (Value.ref (hp.objs.size + 1) :: us) I2.kIn (by rw [List.append_nil]; exact hl)
  rw [List.append_nil] at hbd
  refine wpAny_call (PySem.HandSPX.call_own F.excBase_ValueError (fun Y => PySem.HandSPX.refsVE_contains Y bm hbm) (I1.kIn _ _ hC) (PySem.W.looks_findIn I1.kIn iC) (fun self => PySem.W.bind_fn I1.kIn self tI) hus
    (codeAny_mono (F1.run _ X.stack _ _ ⟨Value.ref (hp.objs.size + 1) :: us, []⟩ (Value.ref (hp.objs.size + 1) :: us) _ _ (fun _ _ _ => False) (hr.make C us []) (I2.env0.make C us []) hbd r2 hq) fun r s' hq' => ?_))
  cases r with
  | error er => exact False.elim hq'
  | ok fl =>
    cases fl with
    | ret u =>
      obtain ⟨v, H2, os2, bare2, un2, hok2, rv, ev, q2⟩ := hq'
      subst ev
      have J := I2.call' (s' := s') (ch := []) os2 un2 hok2 bare2 (fun b z => absurd z (by simp))
      exact ⟨rv, .ref (hp.objs.size + 1), H2, J, rfl, q2⟩
    | next => exact False.elim hq'
    | brk => exact False.elim hq'
    | cont => exact False.elim hq'
theorem pe_mkV (T : OexC X.K C) (iC : PySem.W.findIn X.K (.ref C) "__init__" = some (some (.ref fI))) (tI : PySem.W.typeIn X.K (.ref fI) = some (.type "function"))
    (F1 : FnOk X.prog X.w X.K X.mg X.base CX0 k fI fd ps sp) (hr : Room (k + 1) X.A) (hb : Binds X.K fd ps []) (hg : Gl X x) (hm : X.mg x = some (.ref C)) (ha : PA X (e :: es) ta)
    (hdb : (x == ("__debug__" : Str)) = false := by decide) (he : starEach (e :: es) X.env = (false, eval e X.env) :: starEach es X.env := by rfl) (hpl : (backTo pos (starEach es X.env)).any (·.1) = false := by rfl) :
    PE X (.Call (.Name x p) (e :: es) [] pos) (fun σ H Q => ta σ H fun vs H1 => MkV C sp vs H1 Q) := by
  refine ⟨fun pins s σ H Q I h => ?_⟩
  refine wpAny_Call_Name_kw (ld_glob I hg hm ?_ hdb)
  refine PySem.W.callWith_K (h₀ := X.base) I.ok.mod.kin T.kC
    (thn (ha.run pos pins s σ H _ I h) fun us s1 ⟨vs, H1, I1, r1, q⟩ => ⟨I1.kIn, ?_⟩) he hpl
  exact run_mkV T iC tI F1 hr hb I1 r1 q
theorem pe_mkV0 (T : OexC X.K C) (iC : PySem.W.findIn X.K (.ref C) "__init__" = some (some (.ref fI))) (tI : PySem.W.typeIn X.K (.ref fI) = some (.type "function"))
    (F1 : FnOk X.prog X.w X.K X.mg X.base CX0 k fI fd ps sp) (hr : Room (k + 1) X.A) (hb : Binds X.K fd ps []) (hg : Gl X x) (hm : X.mg x = some (.ref C))
    (hdb : (x == ("__debug__" : Str)) = false := by decide) : PE X (.Call (.Name x p) [] [] pos) (fun σ H Q => MkV C sp [] H Q) := by
  refine ⟨fun pins s σ H Q I h => ?_⟩
  refine wpAny_Call_Name_kw (ld_glob I hg hm ?_ hdb)
  exact PySem.W.callWith_K0 I.kIn T.kC (run_mkV (us := []) T iC tI F1 hr hb I .nil h)
/-- what stands at a is an error of the class at C with these fields -/
def ErrAt (H : Hp) (a C : Addr) (fs : List (Str × V)) : Prop := (H a = some (exo a C none) ∧ fs = []) ∨ ∃ d, H a = some (exo a C (some d)) ∧ H d = some (exd d fs)
theorem ErrAt.inst {pins : List (Addr × Obj)} {σ : L2.St} {H : Hp} {s : Shared} {a : Addr} {fs : List (Str × V)} (I : L2.Inv X pins σ H s) (h : ErrAt H a C fs) :
    ∃ (ox : Obj) (od : Option Obj), PySem.W.InstAt s.heap a ox C od := by
  rcases h with ⟨h, _⟩ | ⟨d, h, hd⟩
  · obtain ⟨t, ho⟩ := exo_at I.hok h
    exact ⟨_, none, ho, rfl, rfl, trivial⟩
  · obtain ⟨t, ho⟩ := exo_at I.hok h
    obtain ⟨mA, hns, _⟩ := exd_at I.hok hd
    obtain ⟨ob, hob, _⟩ := lookIn_ns hns
    exact ⟨_, some ob, ho, rfl, rfl, hob⟩
end
end Sup

namespace Sup
open PySem PySem.Spec PyProof.Rows L2
/-- an own error, ready to be made -/
structure MkE (P : Program) (w : World) (K : PySem.W.Frag) (mg : Str → Option Value) (base : Heap) (nm : Str) (C : Addr) (sp : Sp) (ps : List Str) : Prop where
  oex : OexC K C
  g : mg nm = some (.ref C)
  run : ∃ (f : Addr) (fd : FuncData), PySem.W.findIn K (.ref C) "__init__" = some (some (.ref f)) ∧ PySem.W.typeIn K (.ref f) = some (.type "function") ∧ FnOk P w K mg base CX0 2 f fd ps sp ∧ Binds K fd ps []
section
variable {X : Cx} {nm : Str} {C : Addr} {sp : Sp} {ps : List Str} {e : Expr} {es : List Expr} {ta : TA} {p pos : Pos}
theorem pe_err (M : MkE X.prog X.w X.K X.mg X.base nm C sp ps) (hr : Room 3 X.A) (hg : Gl X nm) (ha : PA X (e :: es) ta)
    (hdb : (nm == ("__debug__" : Str)) = false := by decide) (he : starEach (e :: es) X.env = (false, eval e X.env) :: starEach es X.env := by rfl) (hpl : (backTo pos (starEach es X.env)).any (·.1) = false := by rfl) :
    PE X (.Call (.Name nm p) (e :: es) [] pos) (fun σ H Q => ta σ H fun vs H1 => MkV C sp vs H1 Q) := by
  obtain ⟨f, fd, h1, h2, h3, h4⟩ := M.run
  exact pe_mkV M.oex h1 h2 h3 hr h4 hg M.g ha hdb he hpl
theorem pe_err0 (M : MkE X.prog X.w X.K X.mg X.base nm C sp ps) (hr : Room 3 X.A) (hg : Gl X nm)
    (hdb : (nm == ("__debug__" : Str)) = false := by decide) : PE X (.Call (.Name nm p) [] [] pos) (fun σ H Q => MkV C sp [] H Q) := by
  obtain ⟨f, fd, h1, h2, h3, h4⟩ := M.run
  exact pe_mkV0 M.oex h1 h2 h3 hr h4 hg M.g hdb
end
theorem ErrAt.same {H H' : Hp} {a C : Addr} {fs : List (Str × V)} (h : ErrAt H a C fs) (s : Same H H') : ErrAt H' a C fs := by
  rcases h with ⟨h, e⟩ | ⟨d, h, hd⟩
  · exact .inl ⟨s _ _ h, e⟩
  · exact .inr ⟨d, s _ _ h, s _ _ hd⟩
/-- another object is written -/
theorem ErrAt.upd {H : Hp} {a C p : Addr} {fs : List (Str × V)} {xs : List V} {o : HO} (h : ErrAt H a C fs) (hp : H p = some (.lst xs)) : ErrAt (upd H p o) a C fs := by
  have key : ∀ {b : Addr} {φ : Heap → Prop}, H b = some (.ext φ) → b ≠ p := fun {b φ} e z => by
    rw [z, hp] at e
    cases e
  rcases h with ⟨h, e⟩ | ⟨d, h, hd⟩
  · exact .inl ⟨by rw [upd_ne (key h)]; exact h, e⟩
  · exact .inr ⟨d, by rw [upd_ne (key h)]; exact h, by rw [upd_ne (key hd)]; exact hd⟩
theorem mk_one {C : Addr} {fl : Str} {ok : V → Prop} {v : V} {H1 : Hp} {Q : VK} (hv : ok v) (h : ∀ (a : Addr) (H2 : Hp), H1 a = none → Same H1 H2 → ErrAt H2 a C [(fl, v)] → Q (.ref a) H2) : MkV C (spErr C fl ok) [v] H1 Q := by
  refine ⟨by show 1 ≤ 1000; omega, fun a hn => ⟨a, v, rfl, upd_same, hv, fun dx hdx hne => ⟨rfl, h a _ hn (fun b o e => ?_) (.inr ⟨dx, upd_same, by rw [upd_ne hne, upd_same]⟩)⟩⟩⟩
  rw [upd_ne hne] at hdx
  rw [upd_ne (ne_of_none e hn), upd_ne (ne_of_none e hdx), upd_ne (ne_of_none e hn)]
  exact e
theorem mk_nil {C : Addr} {H1 : Hp} {Q : VK} (h : ∀ (a : Addr) (H2 : Hp), H1 a = none → Same H1 H2 → ErrAt H2 a C [] → Q (.ref a) H2) : MkV C (spErr0 C) [] H1 Q := by
  refine ⟨Nat.zero_le _, fun a hn => ⟨a, rfl, upd_same, rfl, h a _ hn (fun b o e => ?_) (.inl ⟨upd_same, rfl⟩)⟩⟩
  rw [upd_ne (ne_of_none e hn)]
  exact e
theorem mk_lst {C l : Addr} {fl : Str} {xs : List V} {H1 : Hp} {Q : VK} (hl : H1 l = some (.lst xs)) (h60 : xs.length ≤ 60) (hs : Shown H1 xs)
    (h : ∀ (a c : Addr) (H2 : Hp), H1 a = none → H1 c = none → Same H1 H2 → H2 c = some (.lst xs) → ErrAt H2 a C [(fl, .ref c)] → Q (.ref a) H2) : MkV C (spErrL C fl) [.ref l] H1 Q := by
  refine ⟨by show 1 ≤ 1000; omega, fun a hn => ⟨a, l, xs, rfl, upd_same, by rw [upd_ne (ne_of_none hl hn)]; exact hl, h60, fun v hv => ?_, fun c dx hc hdx n1 n2 n3 => ⟨rfl, h a c _ hn ?_ (fun b o e => ?_) ?_ (.inr ⟨dx, upd_same, by rw [upd_ne n1, upd_same]⟩)⟩⟩⟩
  · rcases hs v hv with z | ⟨t, ns, e, ht, r⟩
    · exact .inl z
    · exact .inr ⟨t, ns, e, by rw [upd_ne (ne_of_none ht hn)]; exact ht, r⟩
  · rw [upd_ne n2] at hc
    exact hc
  · rw [upd_ne n2] at hc
    rw [upd_ne n1] at hdx
    rw [upd_ne (ne_of_none e hn), upd_ne (ne_of_none e hdx), upd_ne (ne_of_none e hc), upd_ne (ne_of_none e hn)]
    exact e
  · rw [upd_ne n2, upd_ne (Ne.symm n3), upd_same]
/-- e.f, e an error that stands in the heap -/
def tEx (K : PySem.W.Frag) (n : Str) (te : TE) : TE := fun σ H Q => te σ H fun x H1 => ∃ (a C : Addr) (fs : List (Str × V)) (v : V), x = .ref a ∧ XfC K C ∧ PySem.W.findIn K (.ref C) n = some none ∧ ErrAt H1 a C fs ∧ fs.lookup n = some v ∧ Q v H1
theorem pe_ex {X : Cx} {e : Expr} {te : TE} {pos : Pos} {n : Str} (he : PE X e te) (hb : attributeBase e n X.env (eval e X.env) = eval e X.env := by rfl) : PE X (.Attribute e n pos) (tEx X.K n te) := by
  refine ⟨fun pins s σ H Q I h => attr_of hb (thn (he.run pins s σ H _ I h) fun u s1 hh => ?_)⟩
  obtain ⟨x, H1, I1, rx, a, C, fs, v, rfl, T, hno, hE, hl, q⟩ := hh
  obtain rfl : u = Value.ref a := rx
  rcases hE with ⟨_, e0⟩ | ⟨d, h1, h2⟩
  · rw [e0] at hl
    cases hl
  · obtain ⟨t, ho⟩ := exo_at I1.hok h1
    obtain ⟨mA, hns, hrel⟩ := exd_at I1.hok h2
    obtain ⟨od, hod, hlk⟩ := lookIn_ns hns
    obtain ⟨u, hu, ru⟩ := RelO.some_of (v := v) (o := mA n) (by rw [← hl]; exact hrel n)
    have J : PySem.W.InstAt s1.heap a _ C (some od) := ⟨ho, rfl, rfl, hod⟩
    exact HandSPX.exc_get I1.kIn J T.ga T.gg T.exC (PySem.W.findObj_own T.hdC hno rfl (by rw [hlk, hu])) (handed_of ru) ⟨v, H1, I1.tok _, ru, q⟩
end Sup

namespace Law
open PySem PySem.Spec PyProof.Rows L2 Sup
/-! isinstance of a caught error that has its own dict -/
section
open PySem.W
variable {prog : Program} {w : World} {A : Around} {E : Value → Shared → Prop} {s : Shared} {K : Frag} {x D : Addr} {ox : Obj} {od : Option Obj}
theorem find_data {C : Addr} {nm : Str} {a g : Value} (h1 : (clsIn K C).isSome = true) (h2 : findIn K (.ref C) nm = some (some a)) (h3 : specialIn K a "__get__" = some (some g)) (h4 : takesIn K a = some true) :
    findObj K C od nm = some (.bind g a) := by
  obtain ⟨cd, hcd⟩ := Option.isSome_iff_exists.mp h1
  simp [findObj, hcd, h2, h3, h4]
theorem class_of_err (T : ExcC K D) {Q : Option Value → Shared → Prop} (X : K.In s.heap) (I : InstAt s.heap x ox D od) (h : Q (some (.ref D)) { s with toks := s.toks + 1 }) :
    wpAny (model prog w) A (getAttr? (.ref x) "__class__") Q E s := by
  have isS : (clsIn K D).isSome = true := by
    obtain ⟨cd, hcd, _⟩ := any_some T.hd
    rw [hcd]; rfl
  have hf : findObj K D od "__class__" = some (.bind (.builtin "getset_descriptor.__get__") (.builtin "object.__class__")) :=
    find_data isS T.ha T.hn T.ht
  obtain ⟨hp, g, d, t, os⟩ := s
  have M0 := I.type (M := model prog w)
  have M1 := looks_findIn (M := model prog w) X T.hg
  have M2 := looks_findIn (M := model prog w) X T.hk
  have M3 := looks_find (M := model prog w) X I hf
  have sub : Looks (model prog w) hp (isInstance (.ref x) (.type "BaseException")) true := M0.andThen (looks_subIn X T.hs)
  have n0 : (false && onTheHeap (Value.builtin "BaseException.__getattribute__")) = false := rfl
  have n1 : (onTheHeap (Value.ref D) && Value.builtin "BaseException.__getattribute__" == Value.builtin "object.__getattribute__") = false := by
    have z : (Value.builtin "BaseException.__getattribute__" == Value.builtin "object.__getattribute__") = false := by decide +kernel
    rw [z]; rfl
  unfold getAttr? getAttrBy? getAttrBy
  refine wpAny_bind (wpAny_mkText (wpAny_bind (wpAny_attempt (wpAny_holding (wpAny_bind (M0.at (wpAny_bind (M1.at ?_))))))))
  show wpAny _ _ (if (onTheHeap (Value.ref D) && Value.builtin "BaseException.__getattribute__" == Value.builtin "object.__getattribute__") = true
    then _ else _) _ _ _
  rw [n1, if_neg Bool.false_ne_true]
  unfold getAttrByItsOwn hookBefore
  refine wpAny_bind ?_
  rw [if_pos (show onTheHeap (Value.ref D) = true from rfl)]
  refine M2.at ?_
  refine wpAny_bind (wpAny_attempt (wpAny_holding ?_))
  unfold callGetattribute
  rw [n0, if_neg Bool.false_ne_true]
  unfold boundAndCalled
  rw [PySem.F.excAttr_ValueError.ga.bind (.ref x)]
  refine wpAny_bind (wpAny_pure ?_)
  show wpAny _ _ (call (.builtin "BaseException.__getattribute__")
    [.ref x, .str "__class__" t]) _ _ _
  refine wpAny_call (codeAny_call_builtin PySem.F.excAttr_ValueError.ga.plain PySem.F.entry_bexc_ga ?_)
  refine @check_slot (model prog w) _ _ ⟨hp, g, d, t + 1, os⟩ "BaseException.__getattribute__" "BaseException" "__getattribute__" (.ref x)
    [.str "__class__" t] [] _ (by decide +kernel) (by decide +kernel) sub (PySem.F.args_bexc_ga (.ref x) (.str "__class__" t)) ?_
  unfold Builtin.«object.__getattribute__»
  refine wpAny_bind (wpAny_of_eq (a := ((Value.ref x : Value), [Value.str "__class__" t])) (by first | rfl | (simp only [slotArgs]; rfl)) ?_)
  refine wpAny_bind (wpAny_pure (wpAny_bind (M0.at (wpAny_bind (M3.at ?_)))))
  show wpAny _ _ (holding [Value.builtin "object.__class__"] (call (.builtin "getset_descriptor.__get__")
    [.builtin "object.__class__", .ref x, .ref D]) >>= ret) _ _ _
  refine wpAny_bind (wpAny_holding (wpAny_call (class_get (s := ⟨hp, g, d, t + 1, os⟩) (ox := ox) (od := od) X I T.hm ?_)))
  refine wpAny_pure ?_
  show wpAny _ _ (handedOut (.ref D)) _ _ _
  rw [handedOut_of (v := .ref D) rfl]
  first
    | exact wpAny_pure (wpAny_pure h)
    | exact wpAny_pure h
    | exact wpAny_pure (wpAny_bind (wpAny_pure (wpAny_pure h)))
theorem kit_err (T : ExcC K D) : KitX K (.ref x) (.ref D) (fun h => ∃ od, InstAt h x ox D od) where
  ty := fun _ _ _ ⟨_, I⟩ => I.type
  it := fun _ _ X _ => by
    obtain ⟨cdD, hcD, _⟩ := any_some T.hd
    unfold clsIn at hcD
    split at hcD
    · rename_i ho
      intro A' Q' E' s' k q
      unfold isType loadHead
      exact wpAny_bind (wpAny_loadPart (k _ _ (X _ _ ho)) (wpAny_pure q))
    · cases hcD
  ne := fun h tp dd its n sl X htp => by
    obtain ⟨cdD, hcD, _⟩ := any_some T.hd
    unfold clsIn at hcD
    split at hcD
    · rename_i ho
      refine Bool.eq_false_iff.mpr fun q => ?_
      have e : D = tp := Value.ref.inj (beq_iff_eq.mp q)
      subst e
      have z := (X _ _ ho).symm.trans htp
      cases z
    · cases hcD
  ca := fun X I k => by
    obtain ⟨od, I⟩ := I
    exact class_of_err T X I k
end
/-- isinstance(e, c), e the exception that the suite holds, its own dict at d -/
def rIsD (K : PySem.W.Frag) (D a : Addr) (cls : Value) (d : Option Addr) : List V → Hp → VK → Prop := fun xs H Q =>
  ∃ (c : V) (cv : Value) (b : Bool) (dd : Addr) (fs : List (Str × V)), xs = [.ref a, c] ∧ cls = .ref D ∧ d = some dd ∧ H dd = some (.xd fs) ∧ (∀ u, RelV c u → u = cv) ∧ PySem.W.kitOne K (.ref D) cv = some b ∧ Q (.bl b) H
theorem call_isD {X : Cx} {a D : Addr} {oe : Obj} {cls : Value} {d : Option Addr} {pn : List (Addr × Obj)} (T : ExcC X.K D) (hz : Zc cls d oe) (hf : ∃ vs, oe.data = .fields vs) :
    CallR (X.suite a ((a, oe) :: pn)) (.builtin "isinstance") (rIsD X.K D a cls d) := by
  intro pins s σ H xs us Q I r h
  obtain ⟨c, cv, b, dd, fs, rfl, rfl, rfl, hd, hcv, e, q⟩ := h
  cases r with
  | cons rx rr =>
    cases rr with
    | cons rt rr =>
      cases rr
      cases rx
      have ec := hcv _ rt
      subst ec
      obtain ⟨hget, _⟩ := I.pin (a, oe) (List.mem_append.mpr (.inl List.mem_cons_self))
      obtain ⟨vs, hv⟩ := hf
      obtain ⟨mA, hns, _⟩ := (show ObjOk X.prog X.w H s.heap dd (.xd fs) from I.hok dd _ hd)
      obtain ⟨ob, ho, _⟩ := lookIn_ns hns
      have J : ∃ od, PySem.W.InstAt s.heap a oe D od := ⟨some ob, hget, hz.1, by unfold PySem.W.notCls; rw [hv], by rw [hz.2]; exact ho⟩
      exact PySem.W.kia_one (kit_err T) I.kIn J e (fun z => nomatch z) fun tk => ⟨.bl b, H, I.kept (t' := tk) fun _ _ z => z, rfl, q⟩
end Law

/-! Operators, repr and call of instances of own classes. -/
namespace Own
open PySem PySem.Spec PyProof.Rows L2
section
variable {X : Cx} {CX : CXT} {k : Nat} {C g : Addr} {sp : Sp} {E : XK} {pins : List (Addr × Obj)} {σ : L2.St} {H : Hp} {s : Shared}
theorem not_ni {v : V} {u : Value} (r : RelV v u) : u ≠ .notImplemented := fun z => by
  subst z
  cases v <;> first | (cases r; done) | (obtain ⟨_, z⟩ := r; cases z; done) | (obtain ⟨_, z⟩ := r; nomatch z)
theorem back {Q : VK} {u : Value} {s' : Shared} (h : EP X pins σ Q u s') : PySem.W.CmpBack (EP X pins σ Q) u s' := by
  obtain ⟨v, H', I', rv, q⟩ := id h
  have n := not_ni rv
  cases u <;> first | exact h | exact absurd rfl n
/-- a promise of an own method, asked at other surroundings with the same frames -/
theorem run_at {A : Around} {Q : VK} {us : List Value} {vs : List V} (F : FnR X.prog X.w X.K X.mg X.base CX k g sp) (hr : Room k A) (hfr : A.frames = some X.stack) (hx : Passes CX X E) (I : Inv X pins σ H s) (r : Vals vs us) (h : sp vs H Q E) :
    wpAny (model X.prog X.w) A (call (.ref g) us) (EP X pins σ Q) X.xe s := by
  have e0 : Env0 X.prog X.w X.K X.mg X.base A X.stack s H := by
    have e := I.env0
    exact ⟨hfr, e.mod, e.bs, e.bsz, e.funs, e.frf, e.hok, e.bare⟩
  refine wpAny_call (codeAny_mono (F A X.stack s H us vs Q E hr e0 r h) fun r s' hq => ?_)
  cases r with
  | error e => exact hx pins σ H s e s' I hq
  | ok fl =>
    cases fl with
    | ret u => exact I.after hq
    | next => exact False.elim hq
    | brk => exact False.elim hq
    | cont => exact False.elim hq
/-- two instances of the class at C, and what the operator's def promises of them -/
def rOwn (C : Addr) (sp : Sp) (E : XK) : R2 := fun x y H Q => ∃ a b dx dy fs gs, x = .ref a ∧ y = .ref b ∧ H a = some (.ins C dx fs) ∧ H b = some (.ins C dy gs) ∧ sp [.ref a, .ref b] H Q E
theorem op_cmp {op : CmpOp} (hop : ∀ v u, compareOp op v u = richCompare op v u) (F : FnR X.prog X.w X.K X.mg X.base CX k g sp) (hs : PySem.W.findIn X.K (.ref C) (cmpInfo op).2.1 = some (some (.ref g))) (hf : PySem.W.isFn X.K (.ref g) = true)
    (hr : Room k X.A) (hx : Passes CX X E) : OpR X (compareOp op) (rOwn C sp E) := by
  intro pins s σ H x y v u Q I rx ry h
  obtain ⟨a, b, dx, dy, fs, gs, rfl, rfl, ha, hb, hsp⟩ := h
  cases rx
  cases ry
  obtain ⟨mA, J, _⟩ := ins_get I.hok ha
  obtain ⟨mB, J', _⟩ := ins_get I.hok hb
  obtain ⟨od, J, _⟩ := J.look
  obtain ⟨od', J', _⟩ := J'.look
  obtain ⟨m, hF⟩ := I.fr
  rw [hop]
  refine PySem.W.cmp_K (op := op) (tb := .ref C) hr.units0 hF I.ok.mod.kin J J'.type (by simp [PySem.W.notFirst]) hs hf ?_
  exact wpAny_mono (wpAny_call (run_fnR F hr hx I (us := [.ref a, .ref b]) (vs := [.ref a, .ref b]) (.cons rfl (.cons rfl .nil)) hsp)) (fun _ _ z => back z) fun _ _ z => z
theorem op_bin {op : Operator} (hop : ∀ v u : Value, PySem.binaryOp op v u = PySem.binaryOp op v u) (F : FnR X.prog X.w X.K X.mg X.base CX k g sp) (hs : PySem.W.findIn X.K (.ref C) (PySem.dunder op.info.2) = some (some (.ref g))) (hf : PySem.W.isFn X.K (.ref g) = true)
    (hc : PySem.W.selfFirst X.K C = true) (hr : Room k X.A) (hx : Passes CX X E) : OpR X (PySem.binaryOp op) (rOwn C sp E) := by
  intro pins s σ H x y v u Q I rx ry h
  obtain ⟨a, b, dx, dy, fs, gs, rfl, rfl, ha, hb, hsp⟩ := h
  cases rx
  cases ry
  obtain ⟨mA, J, _⟩ := ins_get I.hok ha
  obtain ⟨mB, J', _⟩ := ins_get I.hok hb
  obtain ⟨od, J, _⟩ := J.look
  obtain ⟨od', J', _⟩ := J'.look
  obtain ⟨m, hF⟩ := I.fr
  refine PySem.W.binop_K (op := op) hF I.ok.mod.kin J J'.type hc hs hf ?_
  exact wpAny_mono (wpAny_call (run_fnR F hr hx I (us := [.ref a, .ref b]) (vs := [.ref a, .ref b]) (.cons rfl (.cons rfl .nil)) hsp)) (fun _ _ z => back z) fun _ _ z => z
/-- repr of an instance -/
def rRepr (C : Addr) (sp : Sp) (E : XK) : List V → Hp → VK → Prop := fun xs H Q => ∃ a dx fs, xs = [.ref a] ∧ H a = some (.ins C dx fs) ∧ sp [.ref a] H (fun v H' => ∃ y, v = .str y ∧ Q v H') E
theorem call_repr (F : FnR X.prog X.w X.K X.mg X.base CX k g sp) (hs : PySem.W.findIn X.K (.ref C) "__repr__" = some (some (.ref g))) (hf : PySem.W.isFn X.K (.ref g) = true)
    (hr : Room (k + 1) X.A) (hx : Passes CX X E) : CallR X (.builtin "repr") (rRepr C sp E) := by
  intro pins s σ H xs us Q I r h
  obtain ⟨a, dx, fs, rfl, ha, hsp⟩ := h
  obtain ⟨u, rfl, r1⟩ : ∃ u, us = [u] ∧ RelV (.ref a) u := by
    cases r with
    | cons r1 rr =>
      cases rr
      exact ⟨_, rfl, r1⟩
  cases r1
  obtain ⟨mA, J, _⟩ := ins_get I.hok ha
  obtain ⟨od, J, _⟩ := J.look
  obtain ⟨m, hF⟩ := I.fr
  refine PySem.W.repr_K ?_ hF I.ok.mod.kin J hs hf (wpAny_mono (run_at F ?_ ?_ hx I (us := [.ref a]) (vs := [.ref a]) (.cons rfl .nil) hsp) (fun u s' z => ?_) fun _ _ z => z)
  · have := hr.un
    show X.A.units + 1 < _
    omega
  · exact hr.in1
  · exact I.env0.frames
  · obtain ⟨v, H', I', rv, y, rfl, q⟩ := z
    obtain ⟨t, rfl⟩ := rv
    exact ⟨.str y, H', I', ⟨t, rfl⟩, q⟩
/-! ### != by the own == -/
theorem ifBound_B {M : Model} {A : Around} {Er : Value → Shared → Prop} {s : Shared} {K : PySem.W.Frag} {x C : Addr} {ox : Obj} {od : Option Obj} {name : Str} {id : String} {args : List Value} {Q : Option Value → Shared → Prop} (X : K.In s.heap) (I : PySem.W.InstAt s.heap x ox C od)
    (hs : PySem.W.findIn K (.ref C) name = some (some (.builtin id))) (hb : ∀ self, bindSpecial (.builtin id) self = pure (.builtin id, [self]))
    (h : wpAny M A (call (.builtin id) (.ref x :: args)) (fun v => Q (some v)) Er s) : wpAny M A (callSpecialIfBound? (.ref x) name args) Q Er s := by
  simp only [callSpecialIfBound?, bindSpecialIfBound?]
  refine wpAny_holding (wpAny_bind (wpAny_bind (wpAny_bind (I.type.here ((PySem.W.looks_findIn X hs).here ?_)))))
  refine wpAny_bind (wpAny_askSetting (wpAny_ite ?_))
  have fin : wpAny M A (call (.builtin id) ([.ref x] ++ args) >>= fun v => pure (some v)) Q Er s := wpAny_bind (wpAny_mono h (fun v s' h' => wpAny_pure h') fun _ _ h' => h')
  split
  · exact wpAny_bind ((PySem.W.Looks.of_pure (hb _)).here (wpAny_pure (by exact fin)))
  · exact wpAny_tryCatch (wpAny_bind ((PySem.W.Looks.of_pure (hb _)).here (wpAny_pure (by exact fin))))
def rOwnNe (C : Addr) (sp : Sp) (E : XK) : R2 := fun x y H Q => ∃ a b dx dy fs gs, x = .ref a ∧ y = .ref b ∧ H a = some (.ins C dx fs) ∧ H b = some (.ins C dy gs) ∧ sp [.ref a, .ref b] H (fun v H' => ∃ t, v = .bl t ∧ Q (.bl (!t)) H') E
theorem op_ne (F : FnR X.prog X.w X.K X.mg X.base CX k g sp) (hs : PySem.W.findIn X.K (.ref C) "__eq__" = some (some (.ref g))) (hn : PySem.W.findIn X.K (.ref C) "__ne__" = some (some (.builtin "object.__ne__"))) (hm : PySem.W.mroIn X.K C (.type "object") = some true)
    (hf : PySem.W.isFn X.K (.ref g) = true) (hr : Room (k + 1) X.A) (hx : Passes CX X E) : OpR X (compareOp .NotEq) (rOwnNe C sp E) := by
  intro pins s σ H x y v u Q I rx ry h
  obtain ⟨a, b, dx, dy, fs, gs, rfl, rfl, ha, hb, hsp⟩ := h
  cases rx
  cases ry
  obtain ⟨mA, J, _⟩ := ins_get I.hok ha
  obtain ⟨mB, J', _⟩ := ins_get I.hok hb
  obtain ⟨od, J, _⟩ := J.look
  obtain ⟨od', J', _⟩ := J'.look
  have KI := I.kIn
  have hu1 : X.A.in1.units < cLine := by
    have := hr.un
    show X.A.units + 1 < _
    omega
  have one : wpAny (model X.prog X.w) X.A (tryCompare (.ref a) (cmpInfo .NotEq).2.1 (.ref b)) (fun r s' => ∃ v, r = some v ∧ EP X pins σ Q v s') X.xe s := by
    unfold tryCompare
    refine wpAny_bind (ifBound_B KI J hn PySem.F.cmp_object.ne.bind (wpAny_call (codeAny_call_builtin PySem.F.cmp_object.ne.plain PySem.F.cmpEntry_ne
      (PySem.W.check_slot PySem.F.cmpKind_ne PySem.F.cmpSplit_ne (J.type.andThen (PySem.W.looks_mroIn KI hm)) (PySem.F.cmpArgs_ne _ _) ?_))))
    unfold Builtin.«object.__ne__»
    refine wpAny_bind (m := slotArgs "__ne__" 1 _) (wpAny_pure ?_)
    refine wpAny_bind (m := cRoomFor _ _) (wpAny_cRoomFor hu1 ?_)
    refine wpAny_bind (m := callSpecialIfBound? (.ref a) (Str.ofString "__eq__") _) (PySem.W.ifBound_K KI J hs hf (wpAny_mono (run_at F hr.in1 I.env0.frames hx I (us := [.ref a, .ref b]) (vs := [.ref a, .ref b]) (.cons rfl (.cons rfl .nil)) hsp) (fun u s' z => ?_) fun _ _ z => z))
    obtain ⟨v, H', I', rv, t, rfl, q⟩ := z
    cases rv
    refine wpAny_bind (m := truthy (.bool t)) (wpAny_truthy_bool ?_)
    first
      | exact wpAny_pure (wpAny_pure ⟨_, rfl, .bl (!t), H', I', rfl, q⟩)
      | exact wpAny_pure ⟨_, rfl, .bl (!t), H', I', rfl, q⟩
  show wpAny _ _ (richCompare .NotEq (.ref a) (.ref b)) _ _ _
  unfold richCompare
  simp only [PySem.oneThing_ref]
  refine wpAny_holding (wpAny_bind (wpAny_cRoomFor hr.units0 ?_))
  refine wpAny_bind (J.type.here (wpAny_bind (J'.type.here ?_)))
  rw [if_neg (by simp)]
  refine wpAny_bind (wpAny_pure ?_)
  simp only [Bool.false_eq_true, if_false]
  refine wpAny_bind (wpAny_mono one (fun r s' z => ?_) fun _ _ e => e)
  obtain ⟨v, rfl, hq⟩ := z
  exact wpAny_pure hq
end
/-! ### a def that returns NotImplemented -/
section
variable {P : Program} {w : World} {K : PySem.W.Frag} {mg : Str → Option Value} {base : Heap}
/-- on values of which pre holds the def at f returns NotImplemented and changes nothing -/
def NiOk (P : Program) (w : World) (K : PySem.W.Frag) (mg : Str → Option Value) (base : Heap) (k : Nat) (f : Addr) (pre : List V → Hp → Prop) : Prop :=
  ∀ (A : Around) (outer : List Env) (s : Shared) (H : Hp) (us : List Value) (vs : List V), Room k A → Env0 P w K mg base A outer s H → Vals vs us → pre vs H →
    codeAny (model P w) A (.call (.ref f) ⟨us, []⟩) (fun r s' => r = .ok (.ret .notImplemented) ∧ CE outer P w H s (fun _ H' => H' = H) .none s') s
theorem ni_def {x qual : Str} {st : Stmt} {f : Addr} {fd : FuncData} {N ps : List Str} {k : Nat} {pre : List V → Hp → Prop} {t : Expr} {els rest : List Stmt} {p2 p3 p4 : Pos} (F : Fun K x qual st f fd) (S : FnScope N ps (defScope st)) (hb : Binds K fd ps [])
    (len : ∀ vs H, pre vs H → vs.length = ps.length) (hbd : defBody st = .If t [.Return (some (.Name "NotImplemented" p2)) p3] els p4 :: rest) (hg : (defScope st).names.lookup ("NotImplemented" : Str) = some .globalImplicit) (hm : mg "NotImplemented" = none)
    (htest : ∀ (cdv : Value) (A : Around) (outer : List Env) (s : Shared) (H : Hp) (vs : List V), Room k (A.deeper (envOfC qual (defScope st) s.heap.objs.size f cdv)) → pre vs H →
      ∃ tt, PT (cxOf CX0 P w K mg base N qual (defScope st) f cdv A outer s H (fun _ _ _ => False)).nox t tt ∧ tt (start N vs) H (fun b H' => b = true ∧ H' = H)) :
    NiOk P w K mg base (k + 1) f pre := by
  intro A outer s H us vs hr e0 r hp
  have hl := len _ _ hp
  have hbind := hb s us (e0.mod.kin.keeps fun b o e => (e0.bs b o e).1) (by rw [List.append_nil, ← r.length]; exact hl)
  rw [List.append_nil] at hbind
  obtain ⟨oc, od, kV, doc, pm, an, cdv, ct, osl, rfl, lk, hcd⟩ := F.ex
  have KX : K.In s.heap := e0.mod.kin.keeps fun b o e => (e0.bs b o e).1
  have lim : s.heap.NoLimit := e0.mod.nolimit.keeps fun b o e => (e0.bs b o e).1
  have hkind : ∀ y ∈ ps.zip us, (defScope st).names.lookup y.1 = some .local ∨ ((defScope st).names.lookup y.1 = some .cell ∧ ((cellsFrom (s.heap.objs.size + 1) (defScope st).names []).lookup y.1).isSome = true) := fun ⟨n, v⟩ hy => by
    rcases S.par n (List.of_mem_zip hy).1 with q | q
    · exact .inl q
    · exact .inr ⟨q, PySem.W.cellsFrom_some _ _ _ (.inl q)⟩
  refine codeAny_call_function hr.depth (KX _ _ lk) rfl S.co S.gen rfl (PySem.W.codeRec_of KX hcd) (hbind _ _ _ _ ?_)
  refine wpAny_newFunctionEnv_cells S.kind hkind fun env he s1 x => ?_
  subst he
  refine ⟨lim.keeps x.toInCall.keep, codeAny_func ?_⟩
  obtain ⟨tt, ht, hq⟩ := htest cdv A outer s H vs (hr.deeper _) hp
  have I : L2.Inv (cxOf CX0 P w K mg base N qual (defScope st) f cdv A outer s H (fun _ _ _ => False)) [] (start N vs) H s1 := inv_start S hr.hd e0 hl r x
  rw [hbd]
  refine wpAny_execs_cons (wpAny_If (wpAny_mono (ht.run [] s1 (start N vs) H _ (I.wish _) hq) (fun b s2 h2 => ?_) fun e s' z => False.elim z))
  obtain ⟨H2, I2, rfl, rfl⟩ := h2
  refine wpAny_execs_cons (wpAny_Return_some (ld_blt I2 hg hm (u := .notImplemented) (by decide +kernel) ?_))
  exact ⟨rfl, .non, _, I2.os, I2.bare, I2.base, I2.hok, rfl, rfl⟩
end
section
variable {X : Cx} {CX : CXT} {k : Nat} {C g : Addr} {sp : Sp} {E : XK} {pre : List V → Hp → Prop}
theorem int_eq_ref (a : Int) (t : Tok) (b C dx : Addr) : Meets (Builtin.«int.__eq__» ⟨[.int a t, .ref b], []⟩) (fun _ R s => s.heap.get? b = some (PySem.W.instObj C dx) ∧ R (.ok (.ret Value.notImplemented)) s) :=
  .of_wp fun prog w A R s h => by
    obtain ⟨hp, g, d, tk, os⟩ := s
    obtain ⟨hl, h⟩ := h
    wp_walk using wpAny_load' hl
    exact ⟨_, rfl, h⟩
/-- an instance == a whole number, where the own == declines -/
def rEqI (C : Addr) (pre : List V → Hp → Prop) : R2 := fun x y H Q => ∃ a dx fs i, x = .ref a ∧ y = .int i ∧ H a = some (.ins C dx fs) ∧ pre [.ref a, .int i] H ∧ Q (.bl false) H
theorem op_eqI (N : NiOk X.prog X.w X.K X.mg X.base k g pre) (hs : PySem.W.findIn X.K (.ref C) "__eq__" = some (some (.ref g))) (hf : PySem.W.isFn X.K (.ref g) = true) (hsub : PySem.W.subIn X.K (.type "int") (.ref C) = some false)
    (hr : Room k X.A) : OpR X (compareOp .Eq) (rEqI C pre) := by
  intro pins s σ H x y v u Q I rx ry h
  obtain ⟨a, dx, fs, i, rfl, rfl, ha, hp, q⟩ := h
  cases rx
  obtain ⟨t, rfl⟩ := ry
  obtain ⟨mA, J, _⟩ := ins_get I.hok ha
  obtain ⟨od, J, _⟩ := J.look
  have KI := I.kIn
  show wpAny _ _ (richCompare .Eq (.ref a) (.int i t)) _ _ _
  unfold richCompare
  simp only [PySem.oneThing_ref]
  refine wpAny_holding (wpAny_bind (wpAny_cRoomFor hr.units0 ?_))
  refine wpAny_bind (J.type.here (wpAny_bind ((PySem.W.Looks.of_pure (M := model X.prog X.w) (h := s.heap) (show typeOf (.int i t) = pure (.type "int") from rfl)).here ?_)))
  have hne : (Value.ref C != Value.type "int") = true := by
    have z : (Value.ref C == Value.type "int") = false := Bool.eq_false_iff.mpr fun q => by cases beq_iff_eq.mp q
    show (!(Value.ref C == Value.type "int")) = true
    rw [z]; rfl
  rw [if_pos hne]
  refine wpAny_bind ((PySem.W.looks_subIn KI hsub).here ?_)
  simp only [Bool.false_eq_true, if_false]
  refine wpAny_bind (m := tryCompare (.ref a) _ (.int i t)) ?_
  unfold tryCompare
  have cl : wpAny (model X.prog X.w) X.A (call (.ref g) [.ref a, .int i t]) (fun u s' => u = .notImplemented ∧ L2.Inv X pins σ H s') X.xe s := by
    refine wpAny_call (codeAny_mono (N X.A X.stack s H [.ref a, .int i t] [.ref a, .int i] hr I.env0 (.cons rfl (.cons ⟨t, rfl⟩ .nil)) hp) fun r s' z => ?_)
    obtain ⟨rfl, z⟩ := z
    obtain ⟨v, H', I', rv, e⟩ := I.after z
    rw [e] at I'
    exact ⟨rfl, I'⟩
  refine wpAny_bind (PySem.W.ifBound_K KI J hs hf (wpAny_mono cl (fun u s' z => ?_) fun _ _ z => z))
  obtain ⟨rfl, I'⟩ := z
  refine wpAny_pure ?_
  obtain ⟨mA', J', _⟩ := ins_get I'.hok ha
  obtain ⟨od', J', _⟩ := J'.look
  dsimp only
  refine wpAny_bind (m := tryCompare (.int i t) _ (.ref a)) ?_
  refine wpAny_tryCompare_declines (typeIs_int _ i t) PySem.F.slot_int_eq (call_meets PySem.F.slot_int_eq (typeIs_int _ i t) PySem.F.entry_int_eq (PySem.F.args_int_eq_2 _ _) (int_eq_ref i t a C dx) ⟨J'.at_, rfl, ?_⟩)
  dsimp only
  refine wpAny_bind (wpAny_rule (wpAny_bind (wpAny_isSame_plain (by rfl) (wpAny_pure ?_))))
  have z : (Value.ref a == Value.int i t) = false := Bool.eq_false_iff.mpr fun q => by cases beq_iff_eq.mp q
  rw [z]
  exact ⟨.bl false, H, I', rfl, q⟩
end
/-! ### x(e, ..) and x(), x a local name that holds an instance -/
section
variable {X : Cx} {CX : CXT} {k i : Nat} {C g : Addr} {sp : Sp} {E : XK} {x : Str} {e : Expr} {es : List Expr} {t : TA} {p pos : Pos}
theorem run_ins {pins : List (Addr × Obj)} {σ : L2.St} {H : Hp} {s : Shared} {Q : VK} {a dx : Addr} {fs : List (Str × V)} {us : List Value} {vs : List V} (c : StX.CallO X.K C g) (F : FnR X.prog X.w X.K X.mg X.base CX k g sp) (hr : Room k X.A) (hx : Passes CX X E) (I : L2.Inv X pins σ H s)
    (ha : H a = some (.ins C dx fs)) (r : Vals vs us) (h : sp (V.ref a :: vs) H Q E) : wpAny (model X.prog X.w) X.A (call (.ref a) us) (EP X pins σ Q) X.xe s := by
  obtain ⟨mA, J, _⟩ := ins_get I.hok ha
  obtain ⟨od, J, _⟩ := J.look
  exact wpAny_call (PySem.W.kco_code I.kIn J rfl c.at_ c.fn c.fi (run_fnR (us := .ref a :: us) (vs := .ref a :: vs) F hr hx I (.cons rfl r) h))
def tCallI (i : Nat) (C : Addr) (sp : Sp) (E : XK) (t : TA) : TE := fun σ H Q => ∃ a, σ[i]? = some (some (.ref a)) ∧ t σ H fun vs H1 => (∃ dx fs, H1 a = some (.ins C dx fs)) ∧ sp (V.ref a :: vs) H1 Q E
theorem pe_callI (c : StX.CallO X.K C g) (F : FnR X.prog X.w X.K X.mg X.base CX k g sp) (hr : Room k X.A) (hx : Passes CX X E) (hN : X.N[i]? = some x) (hv : Vis X.env.scope x) (ha : PA X (e :: es) t)
    (hd : (x == ("__debug__" : Str)) = false := by decide) (hcd : (x == ("__classdict__" : Str)) = false := by decide)
    (he : starEach (e :: es) X.env = (false, eval e X.env) :: starEach es X.env := by rfl) (hpl : (backTo pos (starEach es X.env)).any (·.1) = false := by rfl) : PE X (.Call (.Name x p) (e :: es) [] pos) (tCallI i C sp E t) := by
  refine ⟨fun pins s σ H Q I h => ?_⟩
  obtain ⟨a, hs, h⟩ := h
  refine wpAny_Call_Name_kw (thn ((pe_var (pos := p) (i := i) hN hv hd hcd).run pins s σ H (fun v H1 => v = .ref a ∧ H1 = H) I ⟨.ref a, hs, rfl, rfl⟩) fun u s1 ⟨v, H1, I1, r1, ev, eH⟩ => ?_)
  subst ev
  rw [eH] at I1
  cases r1
  refine StX.callO_with (thn (ha.run pos pins s1 σ H _ I1 h) fun us s2 ⟨vs, H2, I2, r, ⟨dx, fs, hi⟩, q2⟩ => ?_) he hpl
  obtain ⟨mA, J, _⟩ := ins_get I2.hok hi
  obtain ⟨od, J, _⟩ := J.look
  exact ⟨⟨C, _, _, J, rfl⟩, run_ins c F hr hx I2 hi r q2⟩
theorem pe_callI0 (c : StX.CallO X.K C g) (F : FnR X.prog X.w X.K X.mg X.base CX k g sp) (hr : Room k X.A) (hx : Passes CX X E) (hN : X.N[i]? = some x) (hv : Vis X.env.scope x)
    (hd : (x == ("__debug__" : Str)) = false := by decide) (hcd : (x == ("__classdict__" : Str)) = false := by decide) : PE X (.Call (.Name x p) [] [] pos) (tCallI i C sp E tNil) := by
  refine ⟨fun pins s σ H Q I h => ?_⟩
  obtain ⟨a, hs, ⟨dx, fs, hi⟩, h⟩ := h
  refine wpAny_Call_Name_kw (thn ((pe_var (pos := p) (i := i) hN hv hd hcd).run pins s σ H (fun v H1 => v = .ref a ∧ H1 = H) I ⟨.ref a, hs, rfl, rfl⟩) fun u s1 ⟨v, H1, I1, r1, ev, eH⟩ => ?_)
  subst ev
  rw [eH] at I1
  cases r1
  obtain ⟨mA, J, _⟩ := ins_get I1.hok hi
  obtain ⟨od, J, _⟩ := J.look
  exact PySem.W.kco_callWith0 (K := X.K) I1.kIn J rfl c.at_ (run_ins (us := []) c F hr hx I1 hi .nil h)
end
end Own

namespace Own
open PySem PySem.Spec PyProof.Rows L2
/-- a promise told of the values as they come -/
theorem fnr_of {P : Program} {w : World} {K : PySem.W.Frag} {mg : Str → Option Value} {base : Heap} {CX : CXT} {k : Nat} {f : Addr} {fd : FuncData} {ps : List Str} {sp : Sp} {dvs : List V} {ds : List Value} (G : FnOk P w K mg base CX k f fd ps sp) (hb : Binds K fd ps ds) (hd : Vals dvs ds) :
    FnR P w K mg base CX k f (fun vs H Q E => sp (vs ++ dvs) H Q E) := fun A outer s H us vs Q E hr e0 r h => by
  have KX : K.In s.heap := e0.mod.kin.keeps fun b o e => (e0.bs b o e).1
  have hl : (us ++ ds).length = ps.length := by
    have e := (r.append hd).length
    rw [G.len _ _ _ _ h] at e
    exact e.symm
  exact G.run A outer s H ⟨us, []⟩ (us ++ ds) (vs ++ dvs) Q E hr e0 (hb s us KX hl) (r.append hd) h
theorem fnr0 {P : Program} {w : World} {K : PySem.W.Frag} {mg : Str → Option Value} {base : Heap} {CX : CXT} {k : Nat} {f : Addr} {fd : FuncData} {ps : List Str} {sp : Sp} (G : FnOk P w K mg base CX k f fd ps sp) (hb : Binds K fd ps []) :
    FnR P w K mg base CX k f sp := (fnr_of G hb .nil).imp fun vs H Q E h => by rw [List.append_nil]; exact h
section
variable {X : Cx} {CX : CXT} {k i : Nat} {C g f : Addr} {sp : Sp} {E : L2.St → XK} {x : Str} {e a b : Expr} {es : List Expr} {t : TA} {ta tb : TE} {p pos : Pos} {fd : FuncData} {ps : List Str} {dvs : List V} {ds : List Value}
theorem run_fnRS {pins : List (Addr × Obj)} {σ : L2.St} {H : Hp} {s : Shared} {Q : VK} {us : List Value} {vs : List V} (F : FnR X.prog X.w X.K X.mg X.base CX k g sp) (hr : Room k X.A) (hx : PassesAt CX X σ (E σ)) (I : L2.Inv X pins σ H s) (r : Vals vs us) (h : sp vs H Q (E σ)) :
    codeAny (model X.prog X.w) X.A (.call (.ref g) ⟨us, []⟩) (fun r s' => match r with | .ok (.ret v) => EP X pins σ Q v s' | .ok _ => False | .error e => X.xe e s') s := by
  refine codeAny_mono (F X.A X.stack s H us vs Q (E σ) hr I.env0 r h) fun r s' hq => ?_
  cases r with
  | error e => exact hx pins H s e s' I hq
  | ok fl =>
    cases fl with
    | ret u => exact I.after hq
    | next => exact False.elim hq
    | brk => exact False.elim hq
    | cont => exact False.elim hq
/-- a + b of two instances of one own class -/
theorem pe_binS {op : Operator} (F : FnR X.prog X.w X.K X.mg X.base CX k g sp) (hs : PySem.W.findIn X.K (.ref C) (PySem.dunder op.info.2) = some (some (.ref g))) (hf : PySem.W.isFn X.K (.ref g) = true) (hc : PySem.W.selfFirst X.K C = true) (hr : Room k X.A)
    (hx : ∀ σ, PassesAt CX X σ (E σ)) (ha : PE X a ta) (hb : PE X b tb) : PE X (.BinOp a op b pos) (fun σ H Q => ta σ H fun x H1 => tb σ H1 fun y H2 => rOwn C sp (E σ) x y H2 Q) := by
  refine ⟨fun pins s σ H Q I h => ?_⟩
  have h' : tOp (fun x y H2 Q => rOwn C sp (E σ) x y H2 Q) ta tb σ H Q := h
  refine wpAny_BinOp (binT ha hb I h' fun v u s2 x y H2 I2 rx ry q => ?_)
  obtain ⟨a, b, dx, dy, fs, gs, rfl, rfl, ha, hb, hsp⟩ := q
  cases rx
  cases ry
  obtain ⟨mA, J, _⟩ := ins_get I2.hok ha
  obtain ⟨mB, J', _⟩ := ins_get I2.hok hb
  obtain ⟨od, J, _⟩ := J.look
  obtain ⟨od', J', _⟩ := J'.look
  obtain ⟨m, hF⟩ := I2.fr
  refine PySem.W.binop_K (op := op) hF I2.ok.mod.kin J J'.type hc hs hf ?_
  exact wpAny_mono (wpAny_call (run_fnRS F hr (hx σ) I2 (us := [.ref a, .ref b]) (vs := [.ref a, .ref b]) (.cons rfl (.cons rfl .nil)) hsp)) (fun _ _ z => back z) fun _ _ z => z
/-- C(e, ..) whose __init__ may raise -/
structure MkS (C : Addr) (sp : Sp) (E : XK) (vs : List V) (H1 : Hp) (Q : VK) : Prop where
  run : ∀ x dx, H1 x = Option.none → H1 dx = Option.none → dx ≠ x → sp (V.ref x :: vs) (upd (upd H1 dx (.own x)) x (.ins C dx [])) (fun v H2 => v = .non ∧ Q (.ref x) H2) E
def tMakeS (C : Addr) (sp : Sp) (E : L2.St → XK) (t : TA) : TE := fun σ H Q => t σ H fun vs H1 => MkS C sp (E σ) vs H1 Q
theorem pe_makeS (M : Mk X.K C f) (F : FnR X.prog X.w X.K X.mg X.base CX k f sp) (hr : Room (k + 1) X.A) (hg : Gl X x) (hm : X.mg x = some (.ref C)) (hx : ∀ σ, PassesAt CX X σ (E σ)) (ha : PA X (e :: es) t) (hdb : (x == ("__debug__" : Str)) = false := by decide)
    (he : starEach (e :: es) X.env = (false, eval e X.env) :: starEach es X.env := by rfl) (hpl : (backTo pos (starEach es X.env)).any (·.1) = false := by rfl) : PE X (.Call (.Name x p) (e :: es) [] pos) (tMakeS C sp E t) := by
  refine ⟨fun pins s σ H Q I h => ?_⟩
  refine wpAny_Call_Name_kw (ld_glob I hg hm ?_ hdb)
  refine PySem.W.callWith_K (h₀ := X.base) I.ok.mod.kin M.kp (thn (ha.run pos pins s σ H _ I h) fun us s1 ⟨vs, H1, I1, r, q⟩ => ⟨I1.kIn, ?_⟩) he hpl
  have hq := q.run (s1.heap.objs.size + 1) s1.heap.objs.size (I1.hok.fresh (Nat.le_succ _)) (I1.hok.fresh (Nat.le_refl _)) (Nat.ne_of_lt (Nat.lt_succ_self _))
  have I2 := Inv.made (C := C) I1
  have r2 : Vals (V.ref (s1.heap.objs.size + 1) :: vs) (Value.ref (s1.heap.objs.size + 1) :: us) := .cons rfl r
  refine wpAny_call (make_map (f := f) I1.kIn M.makes M.init (beq_iff_eq.mp M.fn) (codeAny_mono (F _ X.stack _ _ (Value.ref (s1.heap.objs.size + 1) :: us) _ _ (E σ) (hr.make C us []) (I2.env0.make C us []) r2 hq) fun r s' hq' => ?_))
  cases r with
  | error e => exact hx σ pins _ _ e s' I2 hq'
  | ok fl =>
    cases fl with
    | ret u =>
      obtain ⟨v, H', I3, rv, ev, q3⟩ := I2.after hq'
      subst ev
      exact ⟨rv, ⟨V.ref (s1.heap.objs.size + 1), H', I3, rfl, q3⟩⟩
    | next => exact False.elim hq'
    | brk => exact False.elim hq'
    | cont => exact False.elim hq'
def tCallIS (i : Nat) (C : Addr) (sp : Sp) (E : L2.St → XK) (t : TA) : TE := fun σ H Q => ∃ a, σ[i]? = some (some (.ref a)) ∧ t σ H fun vs H1 => (∃ dx fs, H1 a = some (.ins C dx fs)) ∧ sp (V.ref a :: vs) H1 Q (E σ)
theorem run_insS {pins : List (Addr × Obj)} {σ : L2.St} {H : Hp} {s : Shared} {Q : VK} {a dx : Addr} {fs : List (Str × V)} {us : List Value} {vs : List V} (c : StX.CallO X.K C g) (F : FnR X.prog X.w X.K X.mg X.base CX k g sp) (hr : Room k X.A) (hx : PassesAt CX X σ (E σ)) (I : L2.Inv X pins σ H s)
    (ha : H a = some (.ins C dx fs)) (r : Vals vs us) (h : sp (V.ref a :: vs) H Q (E σ)) : wpAny (model X.prog X.w) X.A (call (.ref a) us) (EP X pins σ Q) X.xe s := by
  obtain ⟨mA, J, _⟩ := ins_get I.hok ha
  obtain ⟨od, J, _⟩ := J.look
  exact wpAny_call (PySem.W.kco_code I.kIn J rfl c.at_ c.fn c.fi (run_fnRS (us := .ref a :: us) (vs := .ref a :: vs) F hr hx I (.cons rfl r) h))
theorem pe_callIS (c : StX.CallO X.K C g) (F : FnR X.prog X.w X.K X.mg X.base CX k g sp) (hr : Room k X.A) (hx : ∀ σ, PassesAt CX X σ (E σ)) (hN : X.N[i]? = some x) (hv : Vis X.env.scope x) (ha : PA X (e :: es) t)
    (hd : (x == ("__debug__" : Str)) = false := by decide) (hcd : (x == ("__classdict__" : Str)) = false := by decide)
    (he : starEach (e :: es) X.env = (false, eval e X.env) :: starEach es X.env := by rfl) (hpl : (backTo pos (starEach es X.env)).any (·.1) = false := by rfl) : PE X (.Call (.Name x p) (e :: es) [] pos) (tCallIS i C sp E t) := by
  refine ⟨fun pins s σ H Q I h => ?_⟩
  obtain ⟨a, hs, h⟩ := h
  refine wpAny_Call_Name_kw (thn ((pe_var (pos := p) (i := i) hN hv hd hcd).run pins s σ H (fun v H1 => v = .ref a ∧ H1 = H) I ⟨.ref a, hs, rfl, rfl⟩) fun u s1 ⟨v, H1, I1, r1, ev, eH⟩ => ?_)
  subst ev
  rw [eH] at I1
  cases r1
  refine StX.callO_with (thn (ha.run pos pins s1 σ H _ I1 h) fun us s2 ⟨vs, H2, I2, r, ⟨dx, fs, hi⟩, q2⟩ => ?_) he hpl
  obtain ⟨mA, J, _⟩ := ins_get I2.hok hi
  obtain ⟨od, J, _⟩ := J.look
  exact ⟨⟨C, _, _, J, rfl⟩, run_insS c F hr (hx σ) I2 hi r q2⟩
theorem pe_callIS0 (c : StX.CallO X.K C g) (F : FnR X.prog X.w X.K X.mg X.base CX k g sp) (hr : Room k X.A) (hx : ∀ σ, PassesAt CX X σ (E σ)) (hN : X.N[i]? = some x) (hv : Vis X.env.scope x)
    (hd : (x == ("__debug__" : Str)) = false := by decide) (hcd : (x == ("__classdict__" : Str)) = false := by decide) : PE X (.Call (.Name x p) [] [] pos) (tCallIS i C sp E tNil) := by
  refine ⟨fun pins s σ H Q I h => ?_⟩
  obtain ⟨a, hs, ⟨dx, fs, hi⟩, h⟩ := h
  refine wpAny_Call_Name_kw (thn ((pe_var (pos := p) (i := i) hN hv hd hcd).run pins s σ H (fun v H1 => v = .ref a ∧ H1 = H) I ⟨.ref a, hs, rfl, rfl⟩) fun u s1 ⟨v, H1, I1, r1, ev, eH⟩ => ?_)
  subst ev
  rw [eH] at I1
  cases r1
  obtain ⟨mA, J, _⟩ := ins_get I1.hok hi
  obtain ⟨od, J, _⟩ := J.look
  exact PySem.W.kco_callWith0 (K := X.K) I1.kIn J rfl c.at_ (run_insS (us := []) c F hr (hx σ) I1 hi .nil h)
end
end Own

/-! Several except clauses, each with a name for the error. -/
namespace TryAs
open PySem PySem.Spec PyProof.Rows L2
abbrev Su := Addr → Value → Option Addr → TS
/-- the ends of a suite whose name in slot i goes behind it -/
def endsOf (i : Nat) (D : Ends) : Ends := { nx := fun σ' H' => D.nx (σ'.set i none) H', rt := D.rt, bk := fun σ' H' => D.bk (σ'.set i none) H', ct := fun σ' H' => D.ct (σ'.set i none) H' }
/-- what the clauses wish of an error, from the first on: class, slot of the name, suite -/
def wAsM (K : PySem.W.Frag) (Wout : WX) (D : Ends) : List (Value × Nat × Su) → WX
  | [] => Wout
  | (c, i, ts) :: r => fun cls d σ H => ∃ b, PySem.W.exmOne K cls c = some b ∧ (b = true → ∀ a, H a = none → ts a cls d (endsOf i D) (σ.set i (some (.ref a))) H) ∧ (b = false → wAsM K Wout D r cls d σ H)
inductive Hds (X : Cx) : List ExceptHandler → List (Value × Nat × Su) → Prop
  | nil : Hds X [] []
  | cons {x n : Str} {c : Value} {i : Nat} {ts : Su} {b₀ : Stmt} {suite : List Stmt} {np pos' : Pos} {hds : List ExceptHandler} {l : List (Value × Nat × Su)} (hi : X.N[i]? = some n) (hln : X.env.kindOf n = some .local) (hc : Names X x c)
      (hsu : ∀ (a : Addr) (oe : Obj) (cls : Value) (d : Option Addr) (pn : List (Addr × Obj)), Zc cls d oe → (∃ vs, oe.data = .fields vs) → PSs (X.suite a ((a, oe) :: pn)) (b₀ :: suite) (ts a cls d)) (r : Hds X hds l) :
      Hds X (.ExceptHandler (some (.Name x np)) (some n) (b₀ :: suite) pos' :: hds) ((c, i, ts) :: l)
section
variable {X : Cx} {body : List Stmt} {h₀ : ExceptHandler} {hds : List ExceptHandler} {l : List (Value × Nat × Su)} {pos : Pos} {tb : WX → TS} {Wout : WX}
theorem ps_try_asM (hs : X.stack = X.env :: X.outer) (hf : X.env.frame = some X.env.locals) (hN : X.N.Nodup) (tk : Takes X Wout)
    (hb : ∀ (W : WX) (pn : List (Addr × Obj)) (xe : Value → Shared → Prop), Takes (X.tr pn xe) W → PassesOwn (model X.prog X.w) X.A X.env xe → PSs (X.tr pn xe) body (tb W))
    (hh : Hds X (h₀ :: hds) l) : PS X (.Try body (h₀ :: hds) [] [] pos) (fun D σ H => tb (wAsM X.K Wout D l) D σ H) := by
  refine ⟨fun pins s σ H D I h => wpAny_Try_except ?_⟩
  have ok := I.ok
  have hfr : X.A.frames = some (X.env :: X.outer) := by rw [ok.frames, hs]
  refine wpAny_mono ((hb (wAsM X.K Wout D l) (X.pn ++ pins) (fun e s₁ => wpAny (model X.prog X.w) X.A (noteFrame e X.env) (fun _ s₂ => wpAny (model X.prog X.w) X.A (setFlight e none) (fun _ s₃ =>
    wpAny (model X.prog X.w) X.A (handleBy e X.env (h₀ :: hds)) (SP X pins D) X.xe s₃) X.xe s₂) X.xe s₁) (fun u s' xx => ?_) PassesOwn.looking).run [] s σ H D (I.toTry _) h) (fun f s1 hsp => ?_) (fun e s1 he => he)
  · obtain ⟨a, B, sI, pins', σ', H', cls, d, rfl, J', nb, up, sky, na, os, ag, w⟩ := xx
    have J : Inv X pins σ' H' sI := J'.ofTry ok
    show wpAny (model X.prog X.w) X.A (noteFrame (.ref a) X.env) _ _ _
    refine Sky.land Zc.steady hfr hf (show Sky B (X.env :: X.outer) a (Zc cls d) X.env.locals s'.heap by rw [← hs]; exact sky) fun h3 fl3 up3 => ?_
    have J3 : Inv X pins σ' H' { s' with heap := h3 } := J.landed nb fl3.1 (up.trans up3) os ag
    obtain ⟨oe3, vs3, he3, hz3, hd3⟩ := fl3.there
    have nfr : a ∉ frs (X.env :: X.outer) := fun hm => by
      obtain ⟨_, o', e', hnf⟩ := fl3.2.2.1.mem hm
      rw [he3] at e'
      cases e'
      exact hnf _ hd3
    have nL : a ≠ X.env.locals := fun z => nfr (List.mem_filterMap.mpr ⟨X.env, List.mem_cons_self, by rw [hf, z]⟩)
    have nF : a ∉ X.fs := fun hm => by
      obtain ⟨e, he, q⟩ := List.mem_filterMap.mp hm
      exact nfr (List.mem_filterMap.mpr ⟨e, List.mem_cons_of_mem _ he, q⟩)
    have S3 := J3.suite he3 hd3 na nL nF
    have go : ∀ {hds' : List ExceptHandler} {l' : List (Value × Nat × Su)}, Hds X hds' l' → wAsM X.K Wout D l' cls d σ' H' →
        wpAny (model X.prog X.w) X.A (handleBy (.ref a) X.env hds') (SP X pins D) X.xe { s' with heap := h3 } := fun {hds' l'} hk => by
      induction hk with
      | nil =>
        intro w
        refine wpAny_handleBy_nil ?_
        obtain ⟨k1, k2, k3, oe, vs, T, oT, ts', he, hz, hd, h1, hr⟩ := id fl3
        unfold PySem.passOn
        refine wpAny_bind (wpAny_field he hd h1 ?_)
        rw [if_neg (show ¬ ((Value.ref T == Value.none) = true) from by simp)]
        have fin : wpAny (model X.prog X.w) X.A (setFlight (.ref a) X.env.frame) (fun _ s4 => wpAny (model X.prog X.w) X.A (throw (.ref a) : Sem Flow) (SP X pins D) X.xe s4) X.xe { s' with heap := h3 } := by
          rw [hf]
          exact HandSPX.setFlight_upZ fl3 fun h4 hh4 up4 => wpAny_throw (tk _ _ ⟨a, B, sI, pins, σ', H', cls, d, rfl, J, nb, (up.trans up3).trans up4, .inr (.inr (by rw [hs]; exact hh4)), na, os, ag, w⟩)
        first
          | exact wpAny_bind (wpAny_pure (wpAny_bind fin))
          | exact wpAny_bind fin
      | @cons x n c i ts b₀ suite np pos' hds2 l2 hi hln hc hsu r ih =>
        intro w
        obtain ⟨b, hb1, hyes, hno⟩ := w
        refine wpAny_handleBy_cons (codeAny_handlers_test ?_) (by intro q; cases q)
        have LT : PySem.W.Looks (model X.prog X.w) h3 (typeOf (.ref a)) cls := fun A Q E s k q => wpAny_typeOf_ref (k _ _ he3) (by rw [hz3.1]; exact q)
        have LM := PySem.W.exm_one (M := model X.prog X.w) (J3.kIn) LT hb1
        have test : ∀ {Q : Value → Shared → Prop} {E : Value → Shared → Prop}, Q c { s' with heap := h3 } → wpAny (model X.prog X.w) (X.A.mark (some (.ref a))) (eval (.Name x np) X.env) Q E { s' with heap := h3 } := fun {Q E} q => by
          obtain ⟨hg, hdbg, hm | ⟨hm, hv, hnn⟩⟩ := hc
          · exact ld_glob (X := X.suite a ((a, oe3) :: (X.pn ++ pins))) S3 hg hm q hdbg
          · exact ld_blt (X := X.suite a ((a, oe3) :: (X.pn ++ pins))) S3 hg hm hv q hnn hdbg
        refine test (LM.here ?_)
        cases b with
        | false => exact ih (hno rfl)
        | true =>
          refine codeAny_handlers_suite_as (HandSPX.lands_againZ fl3 fun h4 fl4 up4 => ?_)
          have J4 : Inv X pins σ' H' { s' with heap := h4 } := J.landed nb fl4.1 ((up.trans up3).trans up4) os ag
          obtain ⟨oe4, vs4, he4, hz4, hd4⟩ := fl4.there
          refine store_ok (X := X.suite a ((a, oe4) :: (X.pn ++ pins))) (v := .ref a) (J4.suite he4 hd4 na nL nF) hN hi (.inl hln) rfl (fun s5 S5 => ?_) (.inr hln)
          refine wpAny_mono ((hsu a oe4 cls d (X.pn ++ pins) hz4 ⟨_, hd4⟩).run [] s5 _ H' _ S5 (hyes rfl a na)) (fun f s6 hsp => ?_) (fun _ _ z => False.elim z)
          cases f with
          | next =>
            obtain ⟨σ6, H6, S6, q6⟩ := hsp
            exact gone_ok (S6.unsuite ok) hN hi hln fun s7 J7 => ⟨_, _, J7, q6⟩
          | brk =>
            obtain ⟨σ6, H6, S6, q6⟩ := hsp
            exact gone_ok (S6.unsuite ok) hN hi hln fun s7 J7 => ⟨_, _, J7, q6⟩
          | cont =>
            obtain ⟨σ6, H6, S6, q6⟩ := hsp
            exact gone_ok (S6.unsuite ok) hN hi hln fun s7 J7 => ⟨_, _, J7, q6⟩
          | ret u =>
            obtain ⟨v6, σ6, H6, S6, r6, q6⟩ := hsp
            exact gone_ok (S6.unsuite ok) hN hi hln fun s7 J7 => ⟨_, _, _, J7, r6, q6⟩
    exact go hh w
  · cases f with
    | next =>
      obtain ⟨σ', H', J', q⟩ := hsp
      exact wpAny_execs_nil ⟨σ', H', J'.ofTry ok, q⟩
    | brk =>
      obtain ⟨σ', H', J', q⟩ := hsp
      exact ⟨σ', H', J'.ofTry ok, q⟩
    | cont =>
      obtain ⟨σ', H', J', q⟩ := hsp
      exact ⟨σ', H', J'.ofTry ok, q⟩
    | ret u =>
      obtain ⟨v, σ', H', J', r, q⟩ := hsp
      exact ⟨v, σ', H', J'.ofTry ok, r, q⟩
end
end TryAs

/-! len and in of instances by their own defs; methods that raise, in a try. -/
namespace Own
open PySem PySem.Spec PyProof.Rows L2
section
variable {X : Cx} {CX : CXT} {k : Nat} {C g : Addr} {sp : Sp} {E : XK}
def rLenO (C : Addr) (sp : Sp) (E : XK) : List V → Hp → VK → Prop := fun xs H Q => ∃ a dx fs, xs = [.ref a] ∧ H a = some (.ins C dx fs) ∧ sp [.ref a] H (fun v H' => ∃ n : Nat, v = .int n ∧ n < 2 ^ 62 ∧ Q v H') E
theorem call_lenO (F : FnR X.prog X.w X.K X.mg X.base CX k g sp) (hs : PySem.W.findIn X.K (.ref C) "__len__" = some (some (.ref g))) (hf : PySem.W.isFn X.K (.ref g) = true)
    (hr : Room (k + 1) X.A) (hx : Passes CX X E) : CallR X (.builtin "len") (rLenO C sp E) := by
  intro pins s σ H xs us Q I r h
  obtain ⟨a, dx, fs, rfl, ha, hsp⟩ := h
  obtain ⟨u, rfl, r1⟩ : ∃ u, us = [u] ∧ RelV (.ref a) u := by
    cases r with
    | cons r1 rr =>
      cases rr
      exact ⟨_, rfl, r1⟩
  cases r1
  obtain ⟨mA, J, _⟩ := ins_get I.hok ha
  obtain ⟨od, J, _⟩ := J.look
  obtain ⟨m, hF⟩ := I.fr
  refine PySem.W.len_K hF I.ok.mod.kin J hs hf (wpAny_mono (run_at F hr.in1 I.env0.frames hx I (us := [.ref a]) (vs := [.ref a]) (.cons rfl .nil) hsp) (fun u s' z => ?_) fun _ _ z => z)
  obtain ⟨v, H', I', rv, n, rfl, hn, q⟩ := z
  obtain ⟨t, rfl⟩ := rv
  exact ⟨⟨by omega, by omega⟩, .int n, H', I'.tok _, ⟨_, rfl⟩, q⟩
/-- x in o, o an instance -/
def rInO (C : Addr) (sp : Sp) (E : XK) : R2 := fun x y H Q => ∃ a dx fs, y = .ref a ∧ H a = some (.ins C dx fs) ∧ sp [.ref a, x] H (fun v H' => ∃ t, v = .bl t ∧ Q v H') E
theorem op_inO (F : FnR X.prog X.w X.K X.mg X.base CX k g sp) (hs : PySem.W.findIn X.K (.ref C) "__contains__" = some (some (.ref g))) (hf : PySem.W.isFn X.K (.ref g) = true)
    (hr : Room k X.A) (hx : Passes CX X E) : OpR X (compareOp .In) (rInO C sp E) := by
  intro pins s σ H x y v u Q I rx ry h
  obtain ⟨a, dx, fs, rfl, ha, hsp⟩ := h
  cases ry
  obtain ⟨mA, J, _⟩ := ins_get I.hok ha
  obtain ⟨od, J, _⟩ := J.look
  obtain ⟨m, hF⟩ := I.fr
  refine PySem.W.in_K hF I.ok.mod.kin J hs hf ?_
  refine wpAny_mono (run_at F hr I.env0.frames hx I (us := [.ref a, v]) (vs := [.ref a, x]) (.cons rfl (.cons rx .nil)) hsp) (fun u s' z => ?_) fun _ _ z => z
  obtain ⟨w, H', I', rv, t, rfl, q⟩ := z
  cases rv
  exact wpAny_truthy_bool ⟨.bl t, H', I', rfl, q⟩
end
section
variable {X : Cx} {CX : CXT} {k : Nat} {C f : Addr} {sp : Sp} {E : L2.St → XK} {m : Str} {o e : Expr} {es : List Expr} {t : TA} {ta : TE} {p pos apos : Pos}
/-- o.m(e, ..) that may raise, at the slots σ -/
def tMethS (C : Addr) (m : Str) (sp : Sp) (E : L2.St → XK) (ta : TE) (t : TA) : TE := fun σ H Q => ta σ H fun x H1 => ∃ a dx fs, x = .ref a ∧ H1 a = some (.ins C dx fs) ∧ fs.lookup m = none ∧ t σ H1 fun vs H2 => sp (x :: vs) H2 Q (E σ)
theorem pe_methW {pl : Sem Bool} (he : PE X o ta) (c : Cls X.K C) (hm : Meth X.K C m f) (F : FnR X.prog X.w X.K X.mg X.base CX k f sp) (hr : Room k X.A) (hx : ∀ σ, PassesAt CX X σ (E σ)) (ha : PA X (e :: es) t)
    (hst : starEach (e :: es) X.env = (false, eval e X.env) :: starEach es X.env := by rfl) (hpl : (backTo pos (starEach es X.env)).any (·.1) = false := by rfl)
    (ht : eval (.Call (.Attribute o m apos) (e :: es) [] pos) X.env = (do
      let ov ← eval o X.env
      standAt apos.atName
      let (f, first) ← holding [ov] (getMethod ov m pl)
      callWith pos f first (backTo pos (starEach (e :: es) X.env)) (backToKw pos (keywordEach [] X.env))) := by rfl) :
    PE X (.Call (.Attribute o m apos) (e :: es) [] pos) (tMethS C m sp E ta t) := by
  refine ⟨fun pins s σ H Q I h => ?_⟩
  refine PySem.W.methodCall_KW (pl := pl) (thn (he.run pins s σ H _ I h) fun u s1 ⟨x, H1, I1, rx, a, dx, fs, ex, ea, l, q⟩ => ?_) ht
  subst ex
  obtain rfl : u = Value.ref a := rx
  refine getmeth_ok I1 ea c hm l ?_
  refine PySem.W.callWith_K (first := [.ref a]) (h₀ := X.base) I.ok.mod.kin hm.kp (thn (ha.run pos pins s1 σ H1 _ I1 q) fun us s2 ⟨vs, H2, I2, r, q2⟩ => ⟨I2.kIn, ?_⟩) hst hpl
  exact wpAny_call (run_fnRS (us := .ref a :: us) (vs := .ref a :: vs) F hr (hx σ) I2 (.cons rfl r) q2)
end
end Own

namespace Rt
open PySem PySem.Float64
theorem amgm (a b : Nat) : 4 * (a * b) ≤ (a + b) * (a + b) := by
  rcases Nat.le_total a b with c | c
  · obtain ⟨d, rfl⟩ := Nat.exists_eq_add_of_le c
    have e : (a + (a + d)) * (a + (a + d)) = 4 * (a * (a + d)) + d * d := by grind
    omega
  · obtain ⟨d, rfl⟩ := Nat.exists_eq_add_of_le c
    have e : (b + d + b) * (b + d + b) = 4 * ((b + d) * b) + d * d := by grind
    omega
theorem newton_hi (x q y n : Nat) (h1 : n < x * (q + 1)) (h2 : x + q + 1 ≤ 2 * (y + 1)) : n < (y + 1) * (y + 1) := by
  have a : (x + (q + 1)) * (x + (q + 1)) ≤ (2 * (y + 1)) * (2 * (y + 1)) := Nat.mul_le_mul (by omega) (by omega)
  have b := amgm x (q + 1)
  have e : (2 * (y + 1)) * (2 * (y + 1)) = 4 * ((y + 1) * (y + 1)) := by grind
  omega
theorem newton_lo (x q z n t h : Nat) (hx : x = t + h) (ht : t * t ≤ n) (hxn : n < x * x) (hq : x * q ≤ n) (hz : 2 * z + 2 ≤ x + q) (hh : (h * h) * (h * h) ≤ 2 * n) : z * z ≤ n := by
  refine Nat.le_of_not_lt fun c => ?_
  have zt : t < z := by
    refine Nat.lt_of_not_le fun w => ?_
    have := Nat.mul_le_mul w w
    omega
  rcases Nat.lt_or_ge x z with w | w
  · have : x < q := by omega
    have := Nat.mul_le_mul (Nat.le_refl x) (Nat.le_of_lt this)
    omega
  · obtain ⟨d, e⟩ := Nat.exists_eq_add_of_le w
    have dh : d < h := by omega
    have dd : d * d < h * h := Nat.mul_lt_mul'' dh dh
    have k : 2 * x < d * d := by
      obtain ⟨g, eg⟩ : ∃ g, q + d = z + 2 + g := ⟨q + d - (z + 2), by omega⟩
      have e1 : x * (q + d) = x * (z + 2 + g) := by rw [eg]
      have e2 : x * (q + d) = x * q + x * d := Nat.mul_add ..
      have e3 : x * (z + 2 + g) = x * z + 2 * x + x * g := by grind
      have e4 : x * z = z * z + z * d := by rw [e]; grind
      have e5 : x * d = z * d + d * d := by rw [e]; grind
      have e6 : 0 ≤ x * g := Nat.zero_le _
      omega
    have k2 : 2 * x < h * h := by omega
    have k3 : (2 * x) * (2 * x) < (h * h) * (h * h) := Nat.mul_lt_mul'' k2 k2
    have e7 : (2 * x) * (2 * x) = 4 * (x * x) := by grind
    omega
theorem root_small : ∀ n : Nat, n < 8 → rootBelow8 n * rootBelow8 n ≤ n ∧ n < (rootBelow8 n + 1) * (rootBelow8 n + 1) := by decide
theorem root_ok : ∀ (L n : Nat), n.log2 ≤ L → rootByHalves L n * rootByHalves L n ≤ n ∧ n < (rootByHalves L n + 1) * (rootByHalves L n + 1) := by
  intro L
  induction L with
  | zero =>
    intro n h
    refine root_small n ?_
    by_cases h0 : n = 0
    · omega
    · have := (Nat.log2_lt h0 (k := 1)).mp (by omega)
      omega
  | succ L ih =>
    intro n h
    by_cases h8 : n < 8
    · have e : rootByHalves (L + 1) n = rootBelow8 n := by
        unfold rootByHalves
        rw [if_pos h8]
      rw [e]
      exact root_small n h8
    · have e : rootByHalves (L + 1) n = (let k := (n.log2 + 1) / 4; let x := (rootByHalves L (n / 4 ^ k) + 1) * 2 ^ k; let y := (x + n / x) / 2; if y * y > n then y - 1 else y) := by
        rw [rootByHalves, if_neg h8]
      rw [e]
      dsimp only
      have hn0 : n ≠ 0 := by omega
      have hl3 : 3 ≤ n.log2 := (Nat.le_log2 hn0).mpr (by omega)
      have hle : 2 ^ n.log2 ≤ n := Nat.log2_self_le hn0
      generalize hk : (n.log2 + 1) / 4 = k
      have k1 : 1 ≤ k := by omega
      have k4 : 4 * k ≤ n.log2 + 1 := by omega
      have p4 : (4 : Nat) ^ k = 2 ^ k * 2 ^ k := by rw [← Nat.mul_pow]
      have h0 : 0 < (2 : Nat) ^ k := Nat.pow_pos (by decide)
      have h40 : 0 < (4 : Nat) ^ k := Nat.pow_pos (by decide)
      obtain ⟨r1, r2⟩ := ih (n / 4 ^ k) (by
        by_cases hz : n / 4 ^ k = 0
        · rw [hz, Nat.log2_zero]; omega
        · have q1 : n / 4 ^ k < 2 ^ (L + 1) := by
            refine Nat.div_lt_of_lt_mul ?_
            have q2 : n < 2 ^ (n.log2 + 1) := Nat.lt_log2_self
            have q3 : (2 : Nat) ^ (n.log2 + 1) ≤ 4 ^ k * 2 ^ (L + 1) := by
              rw [p4, ← Nat.pow_add, ← Nat.pow_add]
              exact Nat.pow_le_pow_right (by decide) (by omega)
            omega
          have := (Nat.log2_lt hz (k := L + 1)).mpr q1
          omega)
      generalize hr : rootByHalves L (n / 4 ^ k) = r at r1 r2
      generalize hh : (2 : Nat) ^ k = g at h0 p4
      generalize hx : (r + 1) * g = x
      have xt : x = r * g + g := by rw [← hx]; grind
      have tt : (r * g) * (r * g) ≤ n := by
        have a1 : (r * g) * (r * g) = r * r * 4 ^ k := by rw [p4]; grind
        have a2 : r * r * 4 ^ k ≤ n / 4 ^ k * 4 ^ k := Nat.mul_le_mul_right _ r1
        have a3 : n / 4 ^ k * 4 ^ k ≤ n := Nat.div_mul_le_self ..
        omega
      have xn : n < x * x := by
        have a1 : x * x = (r + 1) * (r + 1) * 4 ^ k := by rw [p4, ← hx]; grind
        have a2 : (n / 4 ^ k + 1) * 4 ^ k ≤ (r + 1) * (r + 1) * 4 ^ k := Nat.mul_le_mul_right _ r2
        have a3 := Nat.lt_mul_div_succ n h40
        have a4 : 4 ^ k * (n / 4 ^ k + 1) = (n / 4 ^ k + 1) * 4 ^ k := Nat.mul_comm ..
        omega
      have hg : (g * g) * (g * g) ≤ 2 * n := by
        have a1 : (g * g) * (g * g) = 2 ^ (4 * k) := by
          rw [← hh, ← Nat.pow_add, ← Nat.pow_add]
          congr 1
          omega
        have a2 : (2 : Nat) ^ (4 * k) ≤ 2 ^ (n.log2 + 1) := Nat.pow_le_pow_right (by decide) k4
        have a3 : (2 : Nat) ^ (n.log2 + 1) = 2 * 2 ^ n.log2 := by rw [Nat.pow_succ]; omega
        omega
      have x0 : 0 < x := by
        refine Nat.pos_of_ne_zero fun z => ?_
        rw [z] at xn
        omega
      have hq : x * (n / x) ≤ n := Nat.mul_div_le n x
      have hq2 : n < x * (n / x + 1) := Nat.lt_mul_div_succ n x0
      generalize hqq : n / x = q at hq hq2
      generalize hy : (x + q) / 2 = y
      have hi := newton_hi x q y n hq2 (by omega)
      by_cases c : y * y > n
      · rw [if_pos c]
        have y1 : 1 ≤ y := by
          refine Nat.pos_of_ne_zero fun z => ?_
          rw [z] at c
          omega
        have lo := newton_lo x q (y - 1) n (r * g) g xt tt xn hq (by omega) hg
        refine ⟨lo, ?_⟩
        have e2 : y - 1 + 1 = y := by omega
        rw [e2]
        exact c
      · rw [if_neg c]
        exact ⟨by omega, hi⟩
theorem isqrt_ok (n : Nat) : isqrt n * isqrt n ≤ n ∧ n < (isqrt n + 1) * (isqrt n + 1) := root_ok n.log2 n (Nat.le_refl _)
end Rt

namespace Law
open PySem PySem.Spec PyProof.Rows L2
def top (i : Nat) : Stmt := PySem.Challenge.pw_rungbounds_k14_trials_as_values.main.body.getD i (.Pass ⟨0, 0, 0, 0⟩)
abbrev sBox : Stmt := top 13
abbrev sTake : Stmt := top 14
/-- the box at b: the cells in the list at l, the place, what is left of a great cell, the seed -/
def Box (H : Hp) (b l : Addr) : Prop := ∃ (ns : List Int) (i : Nat) (q s : Int), H b = some (.lst [.ref l, .int i, .int q, .int s]) ∧ H l = some (.lst (ns.map V.int)) ∧ ns.length ≤ 63
theorem Box.ne {H : Hp} {b l : Addr} (B : Box H b l) : l ≠ b := fun z => by
  obtain ⟨ns, i, q, s, h1, h2, _⟩ := B
  rw [z, h1] at h2
  have e := HO.lst.inj (Option.some.inj h2)
  cases ns with
  | nil => cases e
  | cons n ns => cases e
theorem Box.keep {H H' : Hp} {b l : Addr} (B : Box H b l) (k : ∀ c, c = b ∨ c = l → H' c = H c) : Box H' b l := by
  obtain ⟨ns, i, q, s, h1, h2, h3⟩ := B
  exact ⟨ns, i, q, s, (k b (.inl rfl)).trans h1, (k l (.inr rfl)).trans h2, h3⟩
/-- a draw: 0 ≤ r < size; nothing but the box has changed -/
def spTake : Sp := fun vs H Q _ => ∃ (b l : Addr) (n : Int), vs = [.ref b, .int n] ∧ Box H b l ∧ 0 < n ∧ n.natAbs < 2 ^ 8000 ∧
  ∀ (r : Int) (H' : Hp), 0 ≤ r → r < n → Box H' b l → (∀ c, c ≠ b → H' c = H c) → Q (.int r) H'
def spBox (K : PySem.W.Frag) : Sp := fun vs H Q _ => ∃ (a : Addr) (ns : List Int), vs = [.ref a] ∧ SqL K H a (ns.map V.int) ∧ ns.length ≤ 63 ∧
  ∀ (b l : Addr) (H' : Hp), Box H' b l → H b = none → H l = none → Same H H' → Q (.ref b) H'
structure BoxTxt (K : PySem.W.Frag) (mg : Str → Option Value) : Prop where
  len : mg "len" = none
  int : mg "int" = none
section
variable {P : Program} {w : World} {K : PySem.W.Frag} {mg : Str → Option Value} {base : Heap}
theorem scTake : FnScope ["_law_box_here", "_law_size", "_law_cell", "_law_digit"] ["_law_box_here", "_law_size"] (defScope sTake) := ⟨rfl, rfl, rfl, by decide +kernel, rfl, by decide +kernel, by decide +kernel⟩
theorem if_t {c : Bool} {A B : Prop} (hc : c = true) (h : A) : if c = true then A else B := by
  rw [hc]
  exact h
theorem if_f {c : Bool} {A B : Prop} (hc : c = false) (h : B) : if c = true then A else B := by
  rw [hc]
  exact h
theorem pow18 : CPow 10 18 := ⟨by decide, by decide, by decide⟩
theorem at_box {l : Addr} {i q s : Int} : atI [V.ref l, .int i, .int q, .int s] 0 = some (.ref l) ∧ atI [V.ref l, .int i, .int q, .int s] 1 = some (.int i) ∧ atI [V.ref l, .int i, .int q, .int s] 2 = some (.int q) ∧ atI [V.ref l, .int i, .int q, .int s] 3 = some (.int s) := ⟨rfl, rfl, rfl, rfl⟩
theorem ok_take {f : Addr} {fd : FuncData} (F : Fun K "_law_take" "_law_take" sTake f fd) (T : BoxTxt K mg) : FnOk P w K mg base CX0 1 f fd ["_law_box_here", "_law_size"] spTake := by
  refine F.ok scTake (fun vs H Q E h => ?_) (fun cdv A outer s H vs Q E hr h => ?_)
  · obtain ⟨b, l, n, rfl, _⟩ := h
    rfl
  · obtain ⟨b, l, n, rfl, B, hn0, hn1, k⟩ := h
    refine ⟨_, C8.pss_cut (ps_if (PW.pt (pw_and (pt_cmpR op_lt (pe_ix ix_list (pv 0) pe_int (fun _ _ => rfl)) pe_int (nomark _))
          (pw_and1 (pt_cmpR op_lt (pe_ix ix_list (pv 0) pe_int (fun _ _ => rfl)) (pe_callB call_len_seq (by rfl) T.len PySem.boot_len (pa_cons (pe_ix ix_list (pv 0) pe_int (fun _ _ => rfl)) pa_nil)) (nomark _)))))
        (pss_cons (ps_set (i := 2) scTake.nd rfl (Or.inl rfl) (pe_ix ix_list (pe_ix ix_list (pv 0) pe_int (fun _ _ => rfl)) (pe_ix ix_list (pv 0) pe_int (fun _ _ => rfl)) (fun _ _ => rfl)))
        (pss_cons (ps_asg (pe_op op_add (pe_ix ix_list (pv 0) pe_int (fun _ _ => rfl)) pe_int) (pg_sub (pv 0) pe_int set_list))
        (pss_one (ps_if (pt_cmpR op_ge (pv 2) (pe_op op_pow pe_int pe_int) (nomark _))
          (pss_one (ps_asg (pe_op op_sub (pv 2) (pe_op op_pow pe_int pe_int)) (pg_sub (pv 0) pe_int set_list)))
          (pss_one (ps_asg (pe_op op_mod (pe_callTy call_int1 (by rfl) T.int (by decide +kernel) (pa_cons (pe_op op_add (pe_op op_add (pe_op op_mul (pe_ix ix_list (pv 0) pe_int (fun _ _ => rfl)) pe_int) (pe_op op_mul (pv 2) pe_int)) pe_int) pa_nil)) pe_int) (pg_sub (pv 0) pe_int set_list)))))))
        pss_nil)
      (pss_cons (ps_if (pt_cmpR op_gt (pe_ix ix_list (pv 0) pe_int (fun _ _ => rfl)) pe_int (nomark _))
        (pss_cons (ps_set (i := 3) scTake.nd rfl (Or.inl rfl) (pe_op op_mod (pe_callTy call_int1 (by rfl) T.int (by decide +kernel) (pa_cons (pe_ix ix_list (pv 0) pe_int (fun _ _ => rfl)) pa_nil)) (pv 1)))
        (pss_cons (ps_asg (pe_op op_fdivW (pe_ix ix_list (pv 0) pe_int (fun _ _ => rfl)) (pv 1)) (pg_sub (pv 0) pe_int set_list))
        (pss_one (ps_ret (pv 3))))) pss_nil)
      (pss_cons (ps_asg (pe_op op_mod (pe_callTy call_int1 (by rfl) T.int (by decide +kernel) (pa_cons (pe_op op_mul (pe_ix ix_list (pv 0) pe_int (fun _ _ => rfl)) pe_int) pa_nil)) pe_int) (pg_sub (pv 0) pe_int set_list))
      (pss_one (ps_ret (pe_op op_mod (pe_callTy call_int1 (by rfl) T.int (by decide +kernel) (pa_cons (pe_op op_fdiv (pe_ix ix_list (pv 0) pe_int (fun _ _ => rfl)) pe_int) pa_nil)) (pv 1)))))), ?_⟩
    obtain ⟨ns, i, q, sd, hb, hl, h63⟩ := id B
    have hne := B.ne
    have keepB : ∀ {H' : Hp} {i' : Nat} {q' s' : Int}, H' b = some (.lst [.ref l, .int i', .int q', .int s']) → (∀ c, c ≠ b → H' c = H c) → Box H' b l :=
      fun {H' i' q' s'} h1 h2 => ⟨ns, i', q', s', h1, (h2 l hne).trans hl, h63⟩
    refine ⟨fun σ' H' => ∃ (v : Option V) (i' : Nat) (q' s' : Int), σ' = [some (.ref b), some (.int n), v, none] ∧ H' b = some (.lst [.ref l, .int i', .int q', .int s']) ∧ ∀ c, c ≠ b → H' c = H c, ?_, ?_⟩
    · -- a new cell is read, or not
      refine ⟨_, rfl, b, _, _, _, rfl, rfl, SqL.of hb, at_box.2.2.1, _, _, rfl, rfl, _, rfl, ?_⟩
      by_cases c1 : q < 1
      · refine if_t (decide_eq_true c1) ?_
        refine ⟨_, rfl, b, _, _, _, rfl, rfl, SqL.of hb, at_box.2.1, _, rfl, b, _, _, _, rfl, rfl, SqL.of hb, at_box.1, l, _, rfl, .inl (SqL.of hl), _, _, rfl, rfl, _, rfl, ?_⟩
        by_cases c2 : (i : Int) < ((ns.map V.int).length : Int)
        · refine if_t (decide_eq_true c2) ?_
          rw [List.length_map] at c2
          obtain ⟨z, hz⟩ : ∃ z, ns[i]? = some z := ⟨_, List.getElem?_eq_getElem (by omega)⟩
          have hz' : atI (ns.map V.int) (i : Int) = some (V.int z) := atI_nat (by rw [List.getElem?_map, hz]; rfl)
          refine ⟨_, rfl, b, _, _, _, rfl, rfl, SqL.of hb, at_box.1, _, rfl, b, _, _, _, rfl, rfl, SqL.of hb, at_box.2.1, l, _, _, _, rfl, rfl, SqL.of hl, hz', ?_⟩
          refine ⟨_, rfl, b, _, _, _, rfl, rfl, SqL.of hb, at_box.2.1, _, _, rfl, rfl, _, rfl, b, _, _, 1, rfl, rfl, hb, rfl, ?_⟩
          have h1 : ∀ (o : HO), upd H b o b = some o := fun o => upd_same
          have hc : ∀ (o : HO) c, c ≠ b → upd H b o c = H c := fun o c hc => upd_ne hc
          refine ⟨_, rfl, _, _, rfl, rfl, pow18, _, _, rfl, rfl, _, rfl, ?_⟩
          refine ite2 (fun _ => ?_) fun _ => ?_
          · refine ⟨_, rfl, _, _, rfl, rfl, pow18, _, _, rfl, rfl, _, rfl, b, _, _, 2, rfl, rfl, h1 _, rfl, ?_⟩
            exact ⟨some (.int z), i + 1, _, sd, rfl, upd_same, fun c hc' => by rw [upd_ne hc', upd_ne hc']⟩
          · refine ⟨_, rfl, b, _, _, _, rfl, rfl, SqL.of (h1 _), at_box.2.2.2, _, _, rfl, rfl, .inr ⟨by decide, by decide⟩, _, rfl, _, _, rfl, rfl, .inr ⟨by decide, by decide⟩, _, _, rfl, rfl, _, _, rfl, rfl, .inl ⟨_, rfl, _, _, rfl, rfl, (by show (0 : Int) < 2147483647; decide), _, rfl, b, _, _, 3, rfl, rfl, h1 _, rfl, ?_⟩⟩
            exact ⟨some (.int z), i + 1, q, _, rfl, upd_same, fun c hc' => by rw [upd_ne hc', upd_ne hc']⟩
        · refine if_f (decide_eq_false c2) ?_
          exact ⟨none, i, q, sd, rfl, hb, fun _ _ => rfl⟩
      · refine if_f (decide_eq_false c1) ?_
        exact ⟨none, i, q, sd, rfl, hb, fun _ _ => rfl⟩
    · rintro σ' H' ⟨v, i', q', s', rfl, hb', ho⟩
      refine ⟨_, rfl, b, _, _, _, rfl, rfl, SqL.of hb', at_box.2.2.1, _, _, rfl, rfl, _, rfl, ?_⟩
      refine ite2 (fun _ => ?_) fun _ => ?_
      · refine ⟨_, rfl, b, _, _, _, rfl, rfl, SqL.of hb', at_box.2.2.1, .inl ⟨_, rfl, _, rfl, _, _, rfl, rfl, hn0, ?_⟩⟩
        refine ⟨_, rfl, b, _, _, _, rfl, rfl, SqL.of hb', at_box.2.2.1, _, rfl, _, _, rfl, rfl, wide_div hn0 hn1 (by decide) (by decide), _, rfl, b, _, _, 2, rfl, rfl, hb', rfl, _, rfl, ?_⟩
        exact k _ _ (Int.emod_nonneg _ (by omega)) (Int.emod_lt_of_pos _ hn0) (keepB (q' := q' / n) upd_same fun c hc => (upd_ne hc).trans (ho c hc)) fun c hc => (upd_ne hc).trans (ho c hc)
      · refine ⟨_, rfl, b, _, _, _, rfl, rfl, SqL.of hb', at_box.2.2.2, _, _, rfl, rfl, .inr ⟨by decide, by decide⟩, .inl ⟨_, rfl, _, _, rfl, rfl, (by show (0 : Int) < 2147483647; decide), _, rfl, b, _, _, 3, rfl, rfl, hb', rfl, ?_⟩⟩
        refine ⟨_, rfl, b, _, _, _, rfl, rfl, SqL.of upd_same, at_box.2.2.2, _, _, rfl, rfl, ⟨by decide, by decide⟩, .inl ⟨_, rfl, _, rfl, _, _, rfl, rfl, hn0, ?_⟩⟩
        exact k _ _ (Int.emod_nonneg _ (by omega)) (Int.emod_lt_of_pos _ hn0) (keepB upd_same fun c hc => (upd_ne hc).trans (ho c hc)) fun c hc => (upd_ne hc).trans (ho c hc)

theorem cut63 {xs : List V} (h : xs.length ≤ 63) : cutV xs none (some 63) = xs := by
  unfold cutV
  have e0 : HT.sIx xs.length 0 none = 0 := rfl
  have e1 : HT.sIx xs.length xs.length (some 63) = xs.length := by
    unfold HT.sIx
    simp
    omega
  rw [e0, e1, List.drop_zero, Nat.sub_zero, List.take_length]
theorem scBox : FnScope ["_law_script", "_law_cell"] ["_law_script"] (defScope sBox) := ⟨rfl, rfl, rfl, by decide +kernel, rfl, by decide +kernel, by decide +kernel⟩
theorem ok_box {f : Addr} {fd : FuncData} (F : Fun K "_law_box" "_law_box" sBox f fd) (T : BoxTxt K mg) : FnOk P w K mg base CX0 1 f fd ["_law_script"] (spBox K) := by
  refine F.ok scBox (fun vs H Q E h => ?_) (fun cdv A outer s H vs Q E hr h => ?_)
  · obtain ⟨a, ns, rfl, _⟩ := h
    rfl
  · obtain ⟨a, ns, rfl, hS, h63, k⟩ := h
    refine ⟨_, pss_one (ps_ret (pe_lst (pa_cons (pe_lc (own := [("_law_cell", 1)]) (g := gName 1) (tt := tYes) (by rfl) scBox.nd (pi_list (pe_slice sl_list (pv 0) po_none (po_some pe_int)))
        (blkOk_by (own := [("_law_cell", 1)]) (N := ["_law_script", "_law_cell"]) (sc := defScope sBox) (by decide +kernel)) (fun _ _ _ _ _ => pg_name (i := 1) scBox.nd rfl (Or.inl rfl)) (fun _ _ _ _ _ => pts_nil)
        (fun _ _ _ _ _ => pe_callTy call_int1 (by rfl) T.int (by decide +kernel) (pa_cons (pv 1) pa_nil))) (pa_cons pe_int (pa_cons pe_int (pa_cons pe_int pa_nil)))))), ?_⟩
    have e63 : cutV (ns.map V.int) none (some 63) = ns.map V.int := cut63 (by rw [List.length_map]; exact h63)
    refine ⟨_, rfl, 63, rfl, a, _, rfl, hS, fun p hp => ?_⟩
    rw [e63]
    refine ⟨p, rfl, ⟨_, SqL.of upd_same⟩, fun D hD => ?_⟩
    have hpD : p ≠ D := fun z => by
      rw [z, upd_same] at hD
      cases hD
    have hD0 : H D = none := by rw [upd_ne (Ne.symm hpD)] at hD; exact hD
    refine lc_list (K := K) (a := p) (xs := ns.map V.int) (fun i H' => H' D = some (.lst ((ns.take i).map V.int)) ∧ H' p = some (.lst (ns.map V.int)) ∧ ∀ c, c ≠ D → c ≠ p → H' c = H c)
      ⟨upd_same, by rw [upd_ne hpD, upd_same], fun c h1 h2 => by rw [upd_ne h1, upd_ne h2]⟩ (fun i H' _ h => SqL.of h.2.1) ?_ ?_
    · rintro i y H' hi ⟨g1, g2, g3⟩
      obtain ⟨z, hz, rfl⟩ : ∃ z, ns[i]? = some z ∧ y = V.int z := by
        rw [List.getElem?_map] at hi
        cases e : ns[i]? with
        | none =>
          rw [e] at hi
          cases hi
        | some z =>
          rw [e] at hi
          exact ⟨z, rfl, (Option.some.inj hi).symm⟩
      refine ⟨rfl, ?_⟩
      have step : ∃ acc, H' D = some (.lst acc) ∧ acc.length < sizeLine ∧ (upd H' D (.lst (acc ++ [V.int z]))) D = some (.lst ((ns.take (i + 1)).map V.int)) ∧ (upd H' D (.lst (acc ++ [V.int z]))) p = some (.lst (ns.map V.int)) ∧
          ∀ c, c ≠ D → c ≠ p → (upd H' D (.lst (acc ++ [V.int z]))) c = H c := by
        refine ⟨_, g1, ?_, ?_⟩
        · rw [List.length_map, List.length_take]
          exact small1000 (by omega)
        · refine ⟨?_, by rw [upd_ne hpD]; exact g2, fun c h1 h2 => by rw [upd_ne h1]; exact g3 c h1 h2⟩
          rw [upd_same, List.take_succ, hz, Option.toList_some, List.map_append]
          rfl
      exact ⟨V.int z, rfl, .inl ⟨z, rfl, step⟩⟩
    · rintro H' ⟨g1, g2, g3⟩
      rw [List.length_map, List.take_length] at g1
      refine ⟨(by show 4 ≤ sizeLine; decide), fun b hb => ?_⟩
      have hDb : D ≠ b := ne_of_none g1 hb
      have hpb : p ≠ b := ne_of_none g2 hb
      refine k b D _ ⟨ns, 0, 0, 0, upd_same, by rw [upd_ne hDb]; exact g1, h63⟩ (by rw [← g3 b (Ne.symm hDb) (Ne.symm hpb)]; exact hb) hD0 fun c o hc => ?_
      have n1 : c ≠ D := ne_of_none hc hD0
      have n2 : c ≠ p := ne_of_none hc hp
      have n3 : c ≠ b := fun z => by
        rw [z, ← g3 b (Ne.symm hDb) (Ne.symm hpb), hb] at hc
        cases hc
      rw [upd_ne n3, g3 c n1 n2]
      exact hc
end
end Law

namespace Law
open PySem PySem.Spec PyProof.Rows L2 Sup
/-- the whole part of a root -/
theorem call_isqrt {X : Cx} : CallR X (.builtin "math.isqrt") (fun xs H Q => ∃ i : Int, xs = [.int i] ∧ 0 ≤ i ∧ i.natAbs < 2 ^ 9000 ∧ ∀ r : Int, 0 ≤ r → r * r ≤ i → i < (r + 1) * (r + 1) → Q (.int r) H) := by
  intro pins s σ H xs us Q I r h
  obtain ⟨i, rfl, h0, h9, q⟩ := h
  obtain ⟨u, rfl, t, rfl⟩ := vals1 r
  have e : i.toNat = i.natAbs := by omega
  have hl : i.toNat.log2 ≤ 8999 := by
    rw [e]
    by_cases hz : i.natAbs = 0
    · rw [hz, Nat.log2_zero]
      omega
    · have := (Nat.log2_lt hz (k := 9000)).mpr h9
      omega
  obtain ⟨r1, r2⟩ := Rt.isqrt_ok i.toNat
  have z1 : ((Float64.isqrt i.toNat : Nat) : Int) * ((Float64.isqrt i.toNat : Nat) : Int) ≤ i := by
    have := Int.ofNat_le.mpr r1
    rw [Int.natCast_mul] at this
    omega
  have z2 : i < (((Float64.isqrt i.toNat : Nat) : Int) + 1) * (((Float64.isqrt i.toNat : Nat) : Int) + 1) := by
    have := Int.ofNat_lt.mpr r2
    rw [Int.natCast_mul, Int.natCast_add] at this
    have e1 : ((1 : Nat) : Int) = 1 := rfl
    rw [e1] at this
    omega
  exact call_function_meets PySem.W.MGF.kind_isqrt PySem.W.MGF.plain_isqrt PySem.W.MGF.entry_isqrt (PySem.W.MGF.args_isqrt _) (PySem.W.mg_run_isqrt i t (by omega) (by omega) (by omega)).meets ⟨.int _, H, I.tok _, ⟨_, rfl⟩, q _ (Int.natCast_nonneg _) z1 z2⟩
end Law
namespace Law
open PySem PySem.Spec PyProof.Rows L2 Sup
abbrev sErr : Stmt := inClass (top 3) 0
abbrev sChk : Stmt := top 8
/-- the way out by BadNumber -/
def Bad (C : Addr) (E : XK) (H : Hp) (v : Int) : Prop := ∀ d, H d = none → E (.ref C) (some d) (upd H d (.xd [("value", .int v)]))
def spChk (C : Addr) : Sp := fun vs H Q E => ∃ i : Int, vs = [.int i] ∧ i.natAbs < 2 ^ 1000 ∧ (i < 0 → Bad C E H i) ∧ (0 ≤ i → Q .non H)
theorem log_of {i : Int} {k : Nat} (hk : 0 < k) (h : i.natAbs < 2 ^ k) : i.natAbs.log2 < k := by
  by_cases hz : i.natAbs = 0
  · rw [hz, Nat.log2_zero]
    exact hk
  · exact (Nat.log2_lt hz).mpr h
section
variable {P : Program} {w : World} {K : PySem.W.Frag} {mg : Str → Option Value} {base : Heap} {C : Addr}
theorem scChk : FnScope ["number"] ["number"] (defScope sChk) := ⟨rfl, rfl, rfl, by decide +kernel, rfl, by decide +kernel, by decide +kernel⟩
theorem ok_chk {f : Addr} {fd : FuncData} (F : Fun K "check_not_negative" "check_not_negative" sChk f fd) (R : ErrOk P w K mg base "BadNumber" C "value" okInt) : FnOk P w K mg base (L2.CX P w) 4 f fd ["number"] (spChk C) := by
  refine F.okX scChk (fun vs H Q E h => ?_) (fun cdv A outer s H vs Q E hr h => ?_)
  · obtain ⟨i, rfl, _⟩ := h
    rfl
  · obtain ⟨i, rfl, hi, h1, h2⟩ := h
    refine ⟨_, pss_one (ps_if (pt_cmpR op_lt (pv 0) pe_int (nomark _)) (pss_one (ps_err R rfl (takes_of rfl rfl rfl rfl) hr (pa_cons (pv 0) pa_nil) rfl)) pss_nil), ?_⟩
    refine ⟨_, rfl, _, _, rfl, rfl, _, rfl, ?_⟩
    by_cases c : i < 0
    · refine if_t (decide_eq_true c) ⟨_, rfl, err_way ⟨i, rfl, log_of (by decide) (Nat.lt_of_lt_of_le hi (Nat.pow_le_pow_right (by decide) (by decide)))⟩ (h1 c)⟩
    · exact if_f (decide_eq_false c) (h2 (by omega))
end
def Sz (i : Int) : Prop := i.natAbs < 2 ^ 200
theorem Sz.mul {a b : Int} (ha : a.natAbs < 2 ^ 300) (hb : b.natAbs < 2 ^ 300) : CMulW a b := wide_mul ha hb (by decide) (by decide) (by decide)
theorem Sz.w {a : Int} (ha : Sz a) : a.natAbs < 2 ^ 300 := Nat.lt_of_lt_of_le ha (Nat.pow_le_pow_right (by decide) (by decide))
theorem Sz.t {a : Int} (ha : Sz a) : a.natAbs < 2 ^ 1000 := Nat.lt_of_lt_of_le ha (Nat.pow_le_pow_right (by decide) (by decide))
theorem Sz.of {i : Int} (h : i.natAbs ≤ 10 ^ 42) : Sz i := Nat.lt_of_le_of_lt h (by decide +kernel)
theorem pow_ok {j : Int} (h : 0 ≤ j ∧ j ≤ 1000000) : CPow 10 j := ⟨h.1, h.2, by decide⟩
theorem size_fit {n : Int} (h0 : 0 < n) (h : n ≤ 10 ^ 40) : n.natAbs < 2 ^ 8000 := by
  have h1 : n.natAbs ≤ 10 ^ 40 := by omega
  exact Nat.lt_of_le_of_lt h1 (by decide +kernel)
end Law
namespace Law
open PySem PySem.Spec PyProof.Rows L2 Sup
section
variable {X : Cx} {CX : CXT} {k : Nat} {f : Addr} {sp : Sp} {E : XK} {x : Str} {p pos : Pos} {e : Expr} {es : List Expr} {t : TA}
/-- f(e, ..) of a def that takes its values as they come -/
theorem pe_callR (F : FnR X.prog X.w X.K X.mg X.base CX k f sp) (hr : Room k X.A) (hg : Gl X x) (hm : X.mg x = some (.ref f)) (hk : PySem.W.keepIn X.K (.ref f) = true) (hx : Passes CX X E)
    (ha : PA X (e :: es) t) (hdb : (x == ("__debug__" : Str)) = false := by decide)
    (he : starEach (e :: es) X.env = (false, eval e X.env) :: starEach es X.env := by rfl) (hpl : (backTo pos (starEach es X.env)).any (·.1) = false := by rfl) :
    PE X (.Call (.Name x p) (e :: es) [] pos) (fun σ H Q => t σ H fun vs H1 => sp vs H1 Q E) := by
  refine ⟨fun pins s σ H Q I h => ?_⟩
  refine wpAny_Call_Name_kw (ld_glob I hg hm ?_ hdb)
  refine PySem.W.callWith_K (h₀ := X.base) I.ok.mod.kin hk
    (thn (ha.run pos pins s σ H _ I h) fun us s1 ⟨vs, H1, I1, r, q⟩ => ⟨I1.kIn, ?_⟩) he hpl
  exact wpAny_call (run_fnR F hr hx I1 r q)
theorem pe_callR0 (F : FnR X.prog X.w X.K X.mg X.base CX k f sp) (hr : Room k X.A) (hg : Gl X x) (hm : X.mg x = some (.ref f)) (hk : PySem.W.keepIn X.K (.ref f) = true) (hx : Passes CX X E)
    (hdb : (x == ("__debug__" : Str)) = false := by decide) : PE X (.Call (.Name x p) [] [] pos) (fun σ H Q => sp [] H Q E) := by
  refine ⟨fun pins s σ H Q I h => ?_⟩
  refine wpAny_Call_Name_kw (ld_glob I hg hm ?_ hdb)
  exact PySem.W.callWith_K0 I.kIn hk (wpAny_call (run_fnR (us := []) F hr hx I .nil h))
/-- sum of a tuple of whole numbers -/
theorem cr_sumT (hc : X.calm = true) : CallR X (.builtin "sum") (fun vs H Q => ∃ (a : Addr) (ns : List Int), vs = [V.ref a] ∧ SqT X.K H a (ns.map V.int) ∧ Q (.int ns.sum) H) := by
  intro pins s σ H vs us Q I r h
  obtain ⟨a, ns, rfl, hs, q⟩ := h
  obtain ⟨its, rv, hl, _⟩ := I.tuple hs
  rw [Vals.ref1 r]
  have hi := rv.ints
  obtain ⟨xs, hx⟩ := hi.allInts.items
  have hn : numsOf (intItems xs).toList = ns := by rw [← hx]; exact hi.numsOf
  rw [nums_intItems] at hn
  rw [hx] at hl
  refine PySem.W.ktm_sumG (I.ok.hd hc) hl fun h' tk t' hk => ?_
  rw [preSum_eq, List.take_of_length_le (by simp), hn]
  exact ⟨.int _, H, I.kept hk, ⟨_, rfl⟩, q⟩
end
/-- the way out by BadNumber, from a heap in which all stands as it stood -/
def BadS (C : Addr) (E : XK) (H : Hp) (v : Int) : Prop := ∀ (H' : Hp) (d : Addr), Same H H' → H' d = none → E (.ref C) (some d) (upd H' d (.xd [("value", .int v)]))
/-- the first length that a join refuses -/
def lst (ls : List Int) : Int := if 1 < ls.length then 2 else 0
def refused (ls : List Int) : Option Int := ls.find? fun x => decide (x < lst ls)
def joinLen (ls : List Int) : Int := if ls = [] then 0 else ls.sum - ((ls.length : Int) - 1) * 1
def Small (ls : List Int) : Prop := ls.length ≤ 10 ∧ ∀ x ∈ ls, x.natAbs < 2 ^ 1000
def spJoin (C : Addr) (ls : List Int) (H : Hp) (Q : VK) (E : XK) : Prop := Small ls ∧ (∀ v, refused ls = some v → BadS C E H v) ∧ (refused ls = none → ∀ H', Same H H' → Q (.int (joinLen ls)) H')
def spJoined (C : Addr) : Sp := fun vs H Q E => ∃ ls : List Int, vs = ls.map V.int ∧ spJoin C ls H Q E
/-- the def itself: its parameter is the tuple at p -/
def spJoinT (C : Addr) : Sp := fun vs H Q E => ∃ (p : Addr) (ls : List Int), vs = [.ref p] ∧ H p = some (.tup (ls.map V.int)) ∧ Small ls ∧
  (∀ v, refused ls = some v → Bad C E H v) ∧ (refused ls = none → Q (.int (joinLen ls)) H)
abbrev sJoin : Stmt := top 10
structure OverTxt (K : PySem.W.Frag) (mg : Str → Option Value) (D : Addr) (mc : Value) (u : Value) : Prop where
  g : mg "Ladder" = some (.ref D)
  cr : ClX.CRead K D mc
  cv : ClX.CVal K D mc "OVERLAP" (.int 1) u
  len : mg "len" = none
  sum : mg "sum" = none
section
variable {P : Program} {w : World} {K : PySem.W.Frag} {mg : Str → Option Value} {base : Heap} {C D : Addr} {mc u : Value}
theorem scJoin : FnScope ["lengths", "least", "length"] ["lengths"] (defScope sJoin) := ⟨rfl, rfl, rfl, by decide +kernel, rfl, by decide +kernel, by decide +kernel⟩
theorem find_take {p : Int → Bool} {ls : List Int} {i : Nat} {x : Int} (h : ls[i]? = some x) (hn : (ls.take i).find? p = none) :
    (p x = true → ls.find? p = some x) ∧ (p x = false → (ls.take (i + 1)).find? p = none) := by
  have e : ls = ls.take i ++ x :: ls.drop (i + 1) := by
    obtain ⟨hi, hx⟩ := List.getElem?_eq_some_iff.mp h
    rw [← hx, List.getElem_cons_drop, List.take_append_drop]
  refine ⟨fun hp => ?_, fun hp => ?_⟩
  · rw [e, List.find?_append, hn]
    simp [hp]
  · rw [List.take_succ, h, Option.toList_some, List.find?_append, hn]
    simp [hp]
theorem ok_join {f : Addr} {fd : FuncData} (F : Fun K "joined_length" "joined_length" sJoin f fd) (R : ErrOk P w K mg base "BadNumber" C "value" okInt) (T : OverTxt K mg D mc u)
    (hb : ∀ rest : List Value, bindArgs fd ⟨rest, []⟩ = (newTuple rest >>= fun t => pure [(("lengths" : Str), t)])) : FnR P w K mg base (L2.CX P w) 4 f (spJoined C) := by
  obtain ⟨oc, od, kV, doc, pm, an, cdv, ct, osl, rfl, lk, hcd⟩ := F.ex
  refine (StX.fn_star (ps := []) (pv := "lengths") (sp := spJoinT C) (k := 3) lk hcd scJoin StX.cxUp (fun us rest hl => ?_) fun A outer s H vs Q E hr h => ?_).imp ?_
  · have e : us = [] := List.length_eq_zero_iff.mp hl
    subst e
    exact hb rest
  · obtain ⟨p, ls, rfl, hp, ⟨h10, hsz⟩, h1, h2⟩ := h
    refine ⟨_, (pss_cons (ps_if (pt_not (pt_truth (pv 0) (by intro _; rfl))) (pss_one (ps_ret pe_int)) pss_nil)
      (C8.pss_cut (ps_set (i := 1) scJoin.nd rfl (Or.inl rfl) (pe_ifExp (pt_cmpR op_gt (pe_callB call_len_seq (by rfl) T.len PySem.boot_len (pa_cons (pv 0) pa_nil)) pe_int (nomark _)) (pe_op op_add (ClX.pe_cval (pe_glob (v := .ref D) rfl T.g rfl)) pe_int) pe_int))
      (pss_cons (ps_for (passes_of rfl) rfl (pi_tup (pv 0)) (pg_name (i := 2) scJoin.nd rfl (Or.inl rfl)) (pss_one (ps_if (pt_cmpR op_lt (pv 2) (pv 1) (nomark _)) (pss_one (ps_err R rfl (takes_of rfl rfl rfl rfl) hr (pa_cons (pv 2) pa_nil) rfl)) pss_nil)))
      (pss_one (ps_ret (pe_op op_sub (pe_callB (cr_sumT rfl) (by rfl) T.sum (by decide +kernel) (pa_cons (pv 0) pa_nil)) (pe_op op_mul (pe_op op_sub (pe_callB call_len_seq (by rfl) T.len PySem.boot_len (pa_cons (pv 0) pa_nil)) pe_int) (ClX.pe_cval (pe_glob (v := .ref D) rfl T.g rfl))))))))), ?_⟩
    refine ⟨_, rfl, (!(ls.map V.int).isEmpty), .inr (.inl ⟨_, SqT.of hp, rfl⟩), ?_⟩
    by_cases he : ls = []
    · subst he
      exact if_t rfl (h2 rfl)
    · have hne : (ls.map V.int).isEmpty = false := by
        cases ls with
        | nil => exact absurd rfl he
        | cons a r => rfl
      refine if_f (by rw [hne]; rfl) ?_
      have eL : (((ls.map V.int).length : Nat) : Int) = (ls.length : Int) := by rw [List.length_map]
      refine ⟨fun σ' H' => H = H' ∧ σ' = [some (V.ref p), some (V.int (lst ls)), none], ?_, ?_⟩
      · refine ⟨_, rfl, p, _, rfl, .inr (SqT.of hp), _, _, rfl, rfl, _, rfl, ?_⟩
        rw [eL]
        by_cases c1 : (1 : Int) < (ls.length : Int)
        · refine if_t (decide_eq_true c1) ⟨D, mc, .int 1, u, rfl, T.cr, T.cv, _, _, rfl, rfl, rfl, ?_⟩
          unfold lst
          rw [if_pos (by omega)]
          rfl
        · refine if_f (decide_eq_false c1) ⟨rfl, ?_⟩
          unfold lst
          rw [if_neg (by omega)]
          rfl
      rintro σ' H' ⟨rfl, rfl⟩
      refine ⟨_, rfl, p, rfl, ⟨_, SqT.of hp⟩, for_tup (K := K) (a := p) (xs := ls.map V.int) (fun i σ' H' => H = H' ∧ (∃ v2 : Option V, σ' = [some (V.ref p), some (V.int (lst ls)), v2]) ∧ (ls.take i).find? (fun y => decide (y < lst ls)) = none)
        ⟨rfl, ⟨none, rfl⟩, rfl⟩ (fun i σ' H' _ h => by rw [← h.1]; exact SqT.of hp) ?_ ?_⟩
      · rintro i y σ' H' hi ⟨rfl, ⟨v2, rfl⟩, hf⟩
        obtain ⟨z, hz, rfl⟩ : ∃ z, ls[i]? = some z ∧ y = V.int z := by
          rw [List.getElem?_map] at hi
          cases e : ls[i]? with
          | none =>
            rw [e] at hi
            cases hi
          | some z =>
            rw [e] at hi
            exact ⟨z, rfl, (Option.some.inj hi).symm⟩
        have ft := find_take hz hf
        refine ⟨_, rfl, _, rfl, _, _, rfl, rfl, _, rfl, ?_⟩
        by_cases c : z < lst ls
        · exact if_t (decide_eq_true c) ⟨_, rfl, err_way ⟨z, rfl, log_of (by decide) (Nat.lt_of_lt_of_le (hsz z (List.mem_of_getElem? hz)) (Nat.pow_le_pow_right (by decide) (by decide)))⟩ (h1 z (ft.1 (decide_eq_true c)))⟩
        · exact if_f (decide_eq_false c) ⟨rfl, ⟨_, rfl⟩, ft.2 (decide_eq_false c)⟩
      · rintro σ' H' ⟨rfl, ⟨v2, rfl⟩, hf⟩
        rw [List.length_map, List.take_length] at hf
        refine ⟨_, rfl, p, ls, rfl, SqT.of hp, _, rfl, p, _, rfl, .inr (SqT.of hp), _, _, rfl, rfl, D, mc, .int 1, u, rfl, T.cr, T.cv, _, _, rfl, rfl, .inr ⟨by decide, by decide⟩, _, _, rfl, rfl, ?_⟩
        have k := h2 hf
        unfold joinLen at k
        rw [if_neg he] at k
        rw [eL]
        exact k
  · rintro vs H Q E ⟨ls, rfl, ⟨h10, hsz⟩, h1, h2⟩
    refine ⟨[], ls.map V.int, rfl, rfl, by rw [List.length_map, sizeLine_eq]; omega, fun p hp => ⟨p, ls, rfl, upd_same, ⟨h10, hsz⟩, fun v hv d hd => ?_, fun hn => h2 hn _ fun b o e => by rw [upd_ne (ne_of_none e hp)]; exact e⟩⟩
    exact h1 v hv _ d (fun b o e => by rw [upd_ne (ne_of_none e hp)]; exact e) hd
end
end Law
namespace Law
open PySem PySem.Spec PyProof.Rows L2 Sup
abbrev sReach : Stmt := top 9
def ReachR (L f r : Int) : Prop := (L < f → r = -1) ∧ (f ≤ L → 0 ≤ r ∧ r * r ≤ L * L - f * f ∧ L * L - f * f < (r + 1) * (r + 1))
def spReach (C : Addr) : Sp := fun vs H Q E => ∃ L f : Int, vs = [.int L, .int f] ∧ Sz L ∧ Sz f ∧ (L < 0 → Bad C E H L) ∧ (0 ≤ L → f < 0 → Bad C E H f) ∧ (0 ≤ L → 0 ≤ f → ∀ r, ReachR L f r → Q (.int r) H)
section
variable {P : Program} {w : World} {K : PySem.W.Frag} {mg : Str → Option Value} {base : Heap} {C : Addr}
structure Calls_ (mg : Str → Option Value) (fK fF : Addr) : Prop where
  chk : mg "check_not_negative" = some (.ref fK)
  reach : mg "reach" = some (.ref fF)
  sq : mg "isqrt" = some (.builtin "math.isqrt")
theorem scReach : FnScope ["length", "foot"] ["length", "foot"] (defScope sReach) := ⟨rfl, rfl, rfl, by decide +kernel, rfl, by decide +kernel, by decide +kernel⟩
theorem ok_reach {f fK fF : Addr} {fd fdK : FuncData} (F : FunD K "reach" "reach" (defArgs sReach) (defBody sReach) (defScope sReach) [.int 0] [] f fd) (R : ErrOk P w K mg base "BadNumber" C "value" okInt)
    (FK : Fun K "check_not_negative" "check_not_negative" sChk fK fdK) (bK : Binds K fdK ["number"] []) (T : Calls_ mg fK fF) : FnOk P w K mg base (L2.CX P w) 5 f fd ["length", "foot"] (spReach C) := by
  have GK : FnOk P w K mg base (L2.CX P w) 4 fK fdK ["number"] (spChk C) := ok_chk FK R
  refine F.ok scReach (fun vs H Q E h => ?_) (fun cdv A outer s H vs Q E hr h => ?_)
  · obtain ⟨L, h, rfl, _⟩ := h
    rfl
  · obtain ⟨L, h, rfl, hL, hh, h1, h2, h3⟩ := h
    refine ⟨_, (pss_cons (ps_expr (pe_call (E := E) GK hr rfl T.chk FK.kp bK .nil (passes_call (takes_of rfl rfl rfl rfl) fun _ _ _ _ z => z) (pa_cons (pv 0) pa_nil)))
      (pss_cons (ps_expr (pe_call (E := E) GK hr rfl T.chk FK.kp bK .nil (passes_call (takes_of rfl rfl rfl rfl) fun _ _ _ _ z => z) (pa_cons (pv 1) pa_nil)))
      (pss_cons (ps_if (pt_cmpR op_gt (pv 1) (pv 0) (nomark _)) (pss_one (ps_ret (pe_un un_neg pe_int))) pss_nil)
      (pss_one (ps_ret (pe_callBfun call_isqrt rfl T.sq (pa_cons (pe_op op_sub (pe_op op_mulW (pv 0) (pv 0)) (pe_op op_mulW (pv 1) (pv 1))) pa_nil))))))), ?_⟩
    refine ⟨_, rfl, L, rfl, hL.t, fun c => h1 c, fun c0 => ?_⟩
    refine ⟨_, rfl, h, rfl, hh.t, fun c => h2 c0 c, fun d0 => ?_⟩
    have k := h3 c0 d0
    refine ⟨_, rfl, _, rfl, _, _, rfl, rfl, _, rfl, ?_⟩
    by_cases c : L < h
    · exact if_t (decide_eq_true c) ⟨_, rfl, k (-1) ⟨fun _ => rfl, fun z => by omega⟩⟩
    · refine if_f (decide_eq_false c) ?_
      have hle : h * h ≤ L * L := Int.mul_le_mul (by omega) (by omega) d0 c0
      have hb : (L * L).natAbs < 2 ^ 400 := wide_lt (a := 200) (b := 200) hL hL
      have hp : (2 : Nat) ^ 400 ≤ 2 ^ 9000 := Nat.pow_le_pow_right (by decide) (by decide)
      have h5 : 0 ≤ h * h := Int.mul_nonneg d0 d0
      refine ⟨_, rfl, _, rfl, _, _, rfl, rfl, Sz.mul hL.w hL.w, _, rfl, _, rfl, _, _, rfl, rfl, Sz.mul hh.w hh.w, _, _, rfl, rfl, _, rfl, by omega, ?_, fun r r0 r1 r2 => k r ⟨fun z => by omega, fun _ => ⟨r0, r1, r2⟩⟩⟩
      generalize (2 : Nat) ^ 9000 = big at hp ⊢
      generalize (2 : Nat) ^ 400 = mid at hp hb
      generalize L * L = a at *
      generalize h * h = b at *
      omega
end
end Law

namespace Law
open PySem PySem.Spec PyProof.Rows L2 Sup
abbrev sInit : Stmt := inClass (top 11) 1
abbrev sAdd : Stmt := inClass (top 11) 2
abbrev sEq : Stmt := inClass (top 11) 3
abbrev sLt : Stmt := inClass (top 11) 4
abbrev sRepr : Stmt := inClass (top 11) 5
abbrev sCallL : Stmt := inClass (top 11) 6
theorem passS {X : Cx} {CX : CXT} {E : XK} (h : Passes CX X E) : ∀ σ, PassesAt CX X σ E := fun σ pins H s e s' I c => h pins σ H s e s' I c
theorem upd_upd {H : Hp} {a : Addr} {o o' : HO} : upd (upd H a o) a o' = upd H a o' := by
  funext b
  by_cases hb : b = a
  · rw [hb, upd_same, upd_same]
  · rw [upd_ne hb, upd_ne hb, upd_ne hb]
/-- a ladder of the class at CL -/
def Lad (CL : Addr) (H : Hp) (x : Addr) (L p : Int) : Prop := ∃ dx fs, H x = some (.ins CL dx fs) ∧ fs.lookup ("length" : Str) = some (V.int L) ∧ fs.lookup ("parts" : Str) = some (V.int p)
theorem Lad.same {CL : Addr} {H H' : Hp} {x : Addr} {L p : Int} (h : Lad CL H x L p) (s : Same H H') : Lad CL H' x L p := by
  obtain ⟨dx, fs, h1, h2⟩ := h
  exact ⟨dx, fs, s _ _ h1, h2⟩
def ladTxt (L p : Int) : Str := ((((Str.empty ++ ("Ladder(" : Str)) ++ Str.ofString (toString L)) ++ (", " : Str)) ++ Str.ofString (toString p)) ++ (")" : Str)
/-- what of the class the text tells -/
structure LadTxt (K : PySem.W.Frag) (mg : Str → Option Value) (CL fK fR fJ : Addr) : Prop where
  lad : mg "Ladder" = some (.ref CL)
  chk : mg "check_not_negative" = some (.ref fK)
  reach : mg "reach" = some (.ref fR)
  join : mg "joined_length" = some (.ref fJ)
  isi : mg "isinstance" = none
  cl : Cls K CL
  nL : NoAttr K CL "length"
  nP : NoAttr K CL "parts"
  ha : PySem.W.findIn K (.ref CL) "__class__" = some (some (.builtin "object.__class__"))
  hn : PySem.W.specialIn K (.builtin "object.__class__") "__get__" = some (some (.builtin "getset_descriptor.__get__"))
  ht : PySem.W.takesIn K (.builtin "object.__class__") = some true
  hm : PySem.W.mroIn K CL (.type "object") = some true
def spInit (CE CL : Addr) : Sp := fun vs H Q E => ∃ (x : Addr) (L p : Int) (dx : Addr), vs = [.ref x, .int L, .int p] ∧ H x = some (.ins CL dx []) ∧ L.natAbs < 2 ^ 1000 ∧ (L < 0 → BadS CE E H L) ∧
  (0 ≤ L → ∀ fs, fs.lookup ("length" : Str) = some (V.int L) → fs.lookup ("parts" : Str) = some (V.int p) → Q .non (upd H x (.ins CL dx fs)))
def spInit1 (CE CL : Addr) : Sp := fun vs H Q E => spInit CE CL (vs ++ [.int 1]) H Q E
theorem mk_lad {CE CL : Addr} {L p : Int} {H1 : Hp} {Q : VK} {E : XK} (hL : L.natAbs < 2 ^ 1000) (h1 : L < 0 → BadS CE E H1 L) (h2 : 0 ≤ L → ∀ x H2, H1 x = none → Same H1 H2 → Lad CL H2 x L p → Q (.ref x) H2) :
    Own.MkS CL (spInit CE CL) E [.int L, .int p] H1 Q := ⟨fun x dx hx hdx hne => by
  have S : Same H1 (upd (upd H1 dx (.own x)) x (.ins CL dx [])) := fun b o e => by
    rw [upd_ne (ne_of_none e hx), upd_ne (ne_of_none e hdx)]
    exact e
  refine ⟨x, L, p, dx, rfl, upd_same, hL, fun c H' d s hd => h1 c H' d (fun b o e => s _ _ (S _ _ e)) hd, fun c fs l1 l2 => ⟨rfl, ?_⟩⟩
  rw [upd_upd]
  refine h2 c x _ hx (fun b o e => ?_) ⟨dx, fs, upd_same, l1, l2⟩
  rw [upd_ne (ne_of_none e hx), upd_ne (ne_of_none e hdx)]
  exact e⟩
theorem mk_lad1 {CE CL : Addr} {L : Int} {H1 : Hp} {Q : VK} {E : XK} (hL : L.natAbs < 2 ^ 1000) (h1 : L < 0 → BadS CE E H1 L) (h2 : 0 ≤ L → ∀ x H2, H1 x = none → Same H1 H2 → Lad CL H2 x L 1 → Q (.ref x) H2) :
    Own.MkS CL (spInit1 CE CL) E [.int L] H1 Q := ⟨(mk_lad hL h1 h2).run⟩
def spAdd (CE CL : Addr) : Sp := fun vs H Q E => ∃ (a b : Addr) (La Lb pa pb : Int), vs = [.ref a, .ref b] ∧ Lad CL H a La pa ∧ Lad CL H b Lb pb ∧ 0 ≤ La ∧ 0 ≤ Lb ∧ La.natAbs < 2 ^ 900 ∧ Lb.natAbs < 2 ^ 900 ∧
  (∀ v, refused [La, Lb] = some v → BadS CE E H v) ∧ (refused [La, Lb] = none → ∀ x H', H x = none → Same H H' → Lad CL H' x (La + Lb - 1) (pa + pb) → Q (.ref x) H')
def spEqL (CL : Addr) : Sp := fun vs H Q _ => ∃ (a b : Addr) (La Lb pa pb : Int), vs = [.ref a, .ref b] ∧ Lad CL H a La pa ∧ Lad CL H b Lb pb ∧ Q (.bl (decide (La = Lb))) H
def spLtL (CL : Addr) : Sp := fun vs H Q _ => ∃ (a b : Addr) (La Lb pa pb : Int), vs = [.ref a, .ref b] ∧ Lad CL H a La pa ∧ Lad CL H b Lb pb ∧ Q (.bl (decide (La < Lb))) H
def spRepr (CL : Addr) : Sp := fun vs H Q _ => ∃ (a : Addr) (L p : Int), vs = [.ref a] ∧ Lad CL H a L p ∧ L.natAbs < 2 ^ 1000 ∧ p.natAbs < 2 ^ 1000 ∧ Q (.str (ladTxt L p)) H
def spCallL (CE CL : Addr) : Sp := fun vs H Q E => ∃ (a : Addr) (L p f : Int), vs = [.ref a, .int f] ∧ Lad CL H a L p ∧ Sz L ∧ Sz f ∧ 0 ≤ L ∧ (f < 0 → BadS CE E H f) ∧ (0 ≤ f → ∀ r, ReachR L f r → Q (.int r) H)
def preI (CL : Addr) : List V → Hp → Prop := fun vs H => ∃ (a dx : Addr) (fs : List (Str × V)) (i : Int), vs = [.ref a, .int i] ∧ H a = some (.ins CL dx fs)
theorem join2 {La Lb : Int} : joinLen [La, Lb] = La + Lb - 1 := by
  unfold joinLen
  rw [if_neg (by simp)]
  simp
section
variable {P : Program} {w : World} {K : PySem.W.Frag} {mg : Str → Option Value} {base : Heap} {CE CL fK fR fJ : Addr}
theorem kit_own : PySem.W.kitOne K (.ref CL) (.ref CL) = some true := by
  unfold PySem.W.kitOne
  rw [if_pos (beq_self_eq_true _)]
theorem scInit : FnScope ["self", "length", "parts"] ["self", "length", "parts"] (defScope sInit) := ⟨rfl, rfl, rfl, by decide +kernel, rfl, by decide +kernel, by decide +kernel⟩
theorem ok_init {f : Addr} {fd fdK : FuncData} (F : FunD K "__init__" "Ladder.__init__" (defArgs sInit) (defBody sInit) (defScope sInit) [.int 1] [] f fd) (R : ErrOk P w K mg base "BadNumber" CE "value" okInt) (FK : Fun K "check_not_negative" "check_not_negative" sChk fK fdK) (bK : Binds K fdK ["number"] [])
    (T : LadTxt K mg CL fK fR fJ) : FnOk P w K mg base (L2.CX P w) 5 f fd ["self", "length", "parts"] (spInit CE CL) := by
  have GK : FnOk P w K mg base (L2.CX P w) 4 fK fdK ["number"] (spChk CE) := ok_chk FK R
  refine F.ok scInit (fun vs H Q E h => ?_) (fun cdv A outer s H vs Q E hr h => ?_)
  · obtain ⟨x, L, p, dx, rfl, _⟩ := h
    rfl
  · obtain ⟨x, L, p, dx, rfl, hx, hL, h1, h2⟩ := h
    refine ⟨_, (pss_cons (ps_expr (pe_call (E := E) GK hr rfl T.chk FK.kp bK .nil (passes_call (takes_of rfl rfl rfl rfl) fun _ _ _ _ z => z) (pa_cons (pv 1) pa_nil)))
      (pss_cons (ps_fld (pv 0) (pv 1) rfl)
      (pss_one (ps_fld (pv 0) (pv 2) rfl)))), ?_⟩
    refine ⟨_, rfl, L, rfl, hL, fun c d hd => h1 c H d (fun _ _ e => e) hd, fun c => ?_⟩
    refine ⟨_, rfl, _, rfl, x, CL, dx, _, rfl, hx, T.cl, T.nL, by show 0 < 1000; decide, ?_⟩
    refine ⟨_, rfl, _, rfl, x, CL, dx, _, rfl, upd_same, T.cl, T.nP, by show 1 < 1000; decide, ?_⟩
    rw [upd_upd]
    exact h2 c _ rfl rfl
theorem scAdd : FnScope ["self", "other"] ["self", "other"] (defScope sAdd) := ⟨rfl, rfl, rfl, by decide +kernel, rfl, by decide +kernel, by decide +kernel⟩
theorem ok_add {f fI : Addr} {fd : FuncData} (F : Fun K "__add__" "Ladder.__add__" sAdd f fd) (MK : Mk K CL fI) (GI : FnR P w K mg base (L2.CX P w) 5 fI (spInit CE CL)) (GJ : FnR P w K mg base (L2.CX P w) 4 fJ (spJoined CE)) (kJ : PySem.W.keepIn K (.ref fJ) = true)
    (T : LadTxt K mg CL fK fR fJ) : FnOk P w K mg base (L2.CX P w) 7 f fd ["self", "other"] (spAdd CE CL) := by
  refine F.okX scAdd (fun vs H Q E h => ?_) (fun cdv A outer s H vs Q E hr h => ?_)
  · obtain ⟨a, b, La, Lb, pa, pb, rfl, _⟩ := h
    rfl
  · obtain ⟨a, b, La, Lb, pa, pb, rfl, ⟨dx, fs, ha, la1, la2⟩, ⟨dy, gs, hb, lb1, lb2⟩, pA, pB, sA, sB, h1, h2⟩ := h
    have hr4 : Room 4 _ := hr.mono (by decide)
    refine ⟨_, (pss_cons (ps_if (pt_not (pt_val (pe_callB call_isi (by rfl) T.isi (by decide +kernel) (pa_cons (pv 1) (pa_cons (pe_glob (v := .ref CL) rfl T.lad rfl) pa_nil))))) (pss_one ps_never) pss_nil)
      (pss_one (ps_ret (Own.pe_makeS (E := fun _ => E) MK GI hr rfl T.lad (passS (passes_call (takes_of rfl rfl rfl rfl) fun _ _ _ _ z => z)) (pa_cons (pe_callR (E := E) GJ hr4 rfl T.join kJ (passes_call (takes_of rfl rfl rfl rfl) fun _ _ _ _ z => z) (pa_cons (pe_fld (pv 0) rfl) (pa_cons (pe_fld (pv 1) rfl) pa_nil))) (pa_cons (pe_op op_add (pe_fld (pv 0) rfl) (pe_fld (pv 1) rfl)) pa_nil)))))), ?_⟩
    refine ⟨_, rfl, V.ref b, V.ref CL, .ref CL, .ref CL, true, rfl, .own _, .base (.ins hb T.cl T.ha T.hn T.ht T.hm), kit_own, true, rfl, if_f rfl ?_⟩
    refine ⟨_, rfl, a, CL, dx, fs, _, rfl, ha, T.cl, T.nL, la1, _, rfl, b, CL, dy, gs, _, rfl, hb, T.cl, T.nL, lb1, [La, Lb], rfl, ⟨by show 2 ≤ 10; decide, fun x hx => ?_⟩, h1, fun hn H' S => ?_⟩
    · have z : x = La ∨ x = Lb := by simpa using hx
      have e : (2 : Nat) ^ 900 ≤ 2 ^ 1000 := Nat.pow_le_pow_right (by decide) (by decide)
      generalize (2 : Nat) ^ 1000 = m at e ⊢
      rcases z with rfl | rfl <;> omega
    · refine ⟨_, rfl, a, CL, dx, fs, _, rfl, S _ _ ha, T.cl, T.nP, la2, _, rfl, b, CL, dy, gs, _, rfl, S _ _ hb, T.cl, T.nP, lb2, _, _, rfl, rfl, ?_⟩
      have e : joinLen [La, Lb] = La + Lb - 1 := join2
      rw [e]
      refine mk_lad ?_ (fun c => ?_) fun c x H2 hx S2 hl => h2 hn x H2 ?_ (fun _ _ e => S2 _ _ (S _ _ e)) hl
      · have e : (2 : Nat) ^ 900 * 4 ≤ 2 ^ 1000 := by decide +kernel
        generalize (2 : Nat) ^ 1000 = m at e ⊢
        omega
      · have z : La = 0 ∧ Lb = 0 := by omega
        obtain ⟨rfl, rfl⟩ := z
        exact absurd hn (by decide)
      · cases e : H x with
        | none => rfl
        | some o =>
          have z := S _ _ e
          rw [hx] at z
          cases z
theorem scEq : FnScope ["self", "other"] ["self", "other"] (defScope sEq) := ⟨rfl, rfl, rfl, by decide +kernel, rfl, by decide +kernel, by decide +kernel⟩
theorem ok_eq {f : Addr} {fd : FuncData} (F : Fun K "__eq__" "Ladder.__eq__" sEq f fd) (T : LadTxt K mg CL fK fR fJ) : FnOk P w K mg base CX0 1 f fd ["self", "other"] (spEqL CL) := by
  refine F.ok scEq (fun vs H Q E h => ?_) (fun cdv A outer s H vs Q E hr h => ?_)
  · obtain ⟨a, b, La, Lb, pa, pb, rfl, _⟩ := h
    rfl
  · obtain ⟨a, b, La, Lb, pa, pb, rfl, ⟨dx, fs, ha, la1, la2⟩, ⟨dy, gs, hb, lb1, lb2⟩, k⟩ := h
    refine ⟨_, (pss_cons (ps_if (pt_not (pt_val (pe_callB call_isi (by rfl) T.isi (by decide +kernel) (pa_cons (pv 1) (pa_cons (pe_glob (v := .ref CL) rfl T.lad rfl) pa_nil))))) (pss_one ps_never) pss_nil)
      (pss_one (ps_ret (pe_cmpR op_eq (pe_fld (pv 0) rfl) (pe_fld (pv 1) rfl) (nomark _))))), ?_⟩
    refine ⟨_, rfl, V.ref b, V.ref CL, .ref CL, .ref CL, true, rfl, .own _, .base (.ins hb T.cl T.ha T.hn T.ht T.hm), kit_own, true, rfl, if_f rfl ?_⟩
    refine ⟨_, rfl, a, CL, dx, fs, _, rfl, ha, T.cl, T.nL, la1, _, rfl, b, CL, dy, gs, _, rfl, hb, T.cl, T.nL, lb1, rfl, ?_⟩
    have e : decide (V.int La = V.int Lb) = decide (La = Lb) := by
      by_cases c : La = Lb <;> simp [c]
    rw [e]
    exact k
theorem ni_eq {f : Addr} {fd : FuncData} (F : Fun K "__eq__" "Ladder.__eq__" sEq f fd) (b : Binds K fd ["self", "other"] []) (T : LadTxt K mg CL fK fR fJ) (hmN : mg "NotImplemented" = none) (kI : PySem.W.kitOne K (.type "int") (.ref CL) = some false) : Own.NiOk P w K mg base 1 f (preI CL) := by
  refine Own.ni_def F scEq b (fun vs H h => ?_) rfl rfl hmN fun cdv A outer s H vs hr h => ?_
  · obtain ⟨a, dx, fs, i, rfl, _⟩ := h
    rfl
  · obtain ⟨a, dx, fs, i, rfl, ha⟩ := h
    refine ⟨_, (pt_not (pt_val (pe_callB call_isi (by rfl) T.isi (by decide +kernel) (pa_cons (pv 1) (pa_cons (pe_glob (v := .ref CL) rfl T.lad rfl) pa_nil))))), ?_⟩
    exact ⟨_, rfl, V.int i, V.ref CL, .type "int", .ref CL, false, rfl, .own _, .base (.int i), kI, false, rfl, rfl, rfl⟩
theorem scLt : FnScope ["self", "other"] ["self", "other"] (defScope sLt) := ⟨rfl, rfl, rfl, by decide +kernel, rfl, by decide +kernel, by decide +kernel⟩
theorem ok_lt {f : Addr} {fd : FuncData} (F : Fun K "__lt__" "Ladder.__lt__" sLt f fd) (T : LadTxt K mg CL fK fR fJ) : FnOk P w K mg base CX0 1 f fd ["self", "other"] (spLtL CL) := by
  refine F.ok scLt (fun vs H Q E h => ?_) (fun cdv A outer s H vs Q E hr h => ?_)
  · obtain ⟨a, b, La, Lb, pa, pb, rfl, _⟩ := h
    rfl
  · obtain ⟨a, b, La, Lb, pa, pb, rfl, ⟨dx, fs, ha, la1, la2⟩, ⟨dy, gs, hb, lb1, lb2⟩, k⟩ := h
    refine ⟨_, (pss_cons (ps_if (pt_not (pt_val (pe_callB call_isi (by rfl) T.isi (by decide +kernel) (pa_cons (pv 1) (pa_cons (pe_glob (v := .ref CL) rfl T.lad rfl) pa_nil))))) (pss_one ps_never) pss_nil)
      (pss_one (ps_ret (pe_cmpR op_lt (pe_fld (pv 0) rfl) (pe_fld (pv 1) rfl) (nomark _))))), ?_⟩
    refine ⟨_, rfl, V.ref b, V.ref CL, .ref CL, .ref CL, true, rfl, .own _, .base (.ins hb T.cl T.ha T.hn T.ht T.hm), kit_own, true, rfl, if_f rfl ?_⟩
    exact ⟨_, rfl, a, CL, dx, fs, _, rfl, ha, T.cl, T.nL, la1, _, rfl, b, CL, dy, gs, _, rfl, hb, T.cl, T.nL, lb1, _, _, rfl, rfl, k⟩
theorem scRepr : FnScope ["self"] ["self"] (defScope sRepr) := ⟨rfl, rfl, rfl, by decide +kernel, rfl, by decide +kernel, by decide +kernel⟩
theorem ok_repr {f : Addr} {fd : FuncData} (F : Fun K "__repr__" "Ladder.__repr__" sRepr f fd) (T : LadTxt K mg CL fK fR fJ) : FnOk P w K mg base CX0 1 f fd ["self"] (spRepr CL) := by
  refine F.ok scRepr (fun vs H Q E h => ?_) (fun cdv A outer s H vs Q E hr h => ?_)
  · obtain ⟨a, L, p, rfl, _⟩ := h
    rfl
  · obtain ⟨a, L, p, rfl, ⟨dx, fs, ha, la1, la2⟩, hL, hp, k⟩ := h
    have hL' : L.natAbs.log2 < 1920 := log_of (by decide) (Nat.lt_of_lt_of_le hL (Nat.pow_le_pow_right (by decide) (by decide)))
    have hp' : p.natAbs.log2 < 1920 := log_of (by decide) (Nat.lt_of_lt_of_le hp (Nat.pow_le_pow_right (by decide) (by decide)))
    have zL := int_text_length_le (k := 1920) (by decide) hL'
    have zp := int_text_length_le (k := 1920) (by decide) hp'
    refine ⟨_, pss_one (ps_ret (pe_joined (.cons pe_str (.cons (pe_fmt (pe_fld (pv 0) rfl)) (.cons pe_str (.cons (pe_fmt (pe_fld (pv 0) rfl)) (.cons pe_str .nil))))))), ?_⟩
    have e0 : (Str.empty ++ ("Ladder(" : Str)).length ≤ 10 := by decide +kernel
    have e1 : (", " : Str).length ≤ 10 := by decide +kernel
    have e2 : (")" : Str).length ≤ 10 := by decide +kernel
    have z1 : ((Str.empty ++ ("Ladder(" : Str)) ++ Str.ofString (toString L)).length ≤ 2000 := by rw [Str.length_append, PySem.ofString_length]; omega
    have z2 : (((Str.empty ++ ("Ladder(" : Str)) ++ Str.ofString (toString L)) ++ (", " : Str)).length ≤ 2010 := by rw [Str.length_append]; omega
    have z3 : ((((Str.empty ++ ("Ladder(" : Str)) ++ Str.ofString (toString L)) ++ (", " : Str)) ++ Str.ofString (toString p)).length ≤ 4000 := by rw [Str.length_append, PySem.ofString_length]; omega
    have z4 : (ladTxt L p).length ≤ 4010 := by unfold ladTxt; rw [Str.length_append]; omega
    have big : ∀ n : Nat, n ≤ 4010 → n ≤ sizeLine := fun n h => by rw [sizeLine_eq]; omega
    refine ⟨_, rfl, big _ (by omega), _, rfl, a, CL, dx, fs, _, rfl, ha, T.cl, T.nL, la1, .inr ⟨L, rfl, hL', Str.ofString (toString L), rfl, big _ (by omega), ?_⟩⟩
    refine ⟨_, rfl, big _ (by omega), _, rfl, a, CL, dx, fs, _, rfl, ha, T.cl, T.nP, la2, .inr ⟨p, rfl, hp', Str.ofString (toString p), rfl, big _ (by omega), ?_⟩⟩
    exact ⟨_, rfl, big _ z4, k⟩
theorem scCallL : FnScope ["self", "foot"] ["self", "foot"] (defScope sCallL) := ⟨rfl, rfl, rfl, by decide +kernel, rfl, by decide +kernel, by decide +kernel⟩
theorem ok_callL {f : Addr} {fd fdR : FuncData} (F : FunD K "__call__" "Ladder.__call__" (defArgs sCallL) (defBody sCallL) (defScope sCallL) [.int 0] [] f fd) (GR : FnOk P w K mg base (L2.CX P w) 5 fR fdR ["length", "foot"] (spReach CE)) (FR : FunD K "reach" "reach" (defArgs sReach) (defBody sReach) (defScope sReach) [.int 0] [] fR fdR) (bR : Binds K fdR ["length", "foot"] [])
    (T : LadTxt K mg CL fK fR fJ) : FnOk P w K mg base (L2.CX P w) 6 f fd ["self", "foot"] (spCallL CE CL) := by
  refine F.ok scCallL (fun vs H Q E h => ?_) (fun cdv A outer s H vs Q E hr h => ?_)
  · obtain ⟨a, L, p, f, rfl, _⟩ := h
    rfl
  · obtain ⟨a, L, p, f, rfl, ⟨dx, fs, ha, la1, la2⟩, sL, sf, pL, h1, h2⟩ := h
    refine ⟨_, (pss_one (ps_ret (pe_call (E := E) GR hr rfl T.reach FR.kp bR .nil (passes_call (takes_of rfl rfl rfl rfl) fun _ _ _ _ z => z) (pa_cons (pe_fld (pv 0) rfl) (pa_cons (pv 1) pa_nil))))), ?_⟩
    exact ⟨_, rfl, a, CL, dx, fs, _, rfl, ha, T.cl, T.nL, la1, _, rfl, L, f, rfl, sL, sf, fun c => absurd c (by omega), fun _ c d hd => h1 c H d (fun _ _ e => e) hd, fun _ c r hr => h2 c r hr⟩
end
end Law

/-! cls(..) where cls is a local; C.m(..) of a classmethod that may raise, at the slots. -/
namespace Own
open PySem PySem.Spec PyProof.Rows L2
section
variable {X : Cx} {CX : CXT} {k i : Nat} {C g f p0 : Addr} {sp : Sp} {E : L2.St → XK} {x m : Str} {o e : Expr} {es : List Expr} {t : TA} {ta : TE} {p pos apos : Pos} {mc : Value} {pl : Sem Bool}
theorem pe_makeV (M : Mk X.K C f) (F : FnR X.prog X.w X.K X.mg X.base CX k f sp) (hr : Room (k + 1) X.A) (hN : X.N[i]? = some x) (hv : Vis X.env.scope x) (hx : ∀ σ, PassesAt CX X σ (E σ)) (ha : PA X (e :: es) t) (hd : (x == ("__debug__" : Str)) = false := by decide) (hcd : (x == ("__classdict__" : Str)) = false := by decide)
    (he : starEach (e :: es) X.env = (false, eval e X.env) :: starEach es X.env := by rfl) (hpl : (backTo pos (starEach es X.env)).any (·.1) = false := by rfl) :
    PE X (.Call (.Name x p) (e :: es) [] pos) (fun σ H Q => σ[i]? = some (some (.ref C)) ∧ t σ H fun vs H1 => MkS C sp (E σ) vs H1 Q) := by
  refine ⟨fun pins s σ H Q I h => ?_⟩
  obtain ⟨hs, h⟩ := h
  refine wpAny_Call_Name_kw (thn ((pe_var (pos := p) (i := i) hN hv hd hcd).run pins s σ H (fun v H1 => v = .ref C ∧ H1 = H) I ⟨.ref C, hs, rfl, rfl⟩) fun u s0 ⟨v, H0, I0, r0, ev, eH⟩ => ?_)
  subst ev
  rw [eH] at I0
  cases r0
  refine PySem.W.callWith_K (h₀ := X.base) I0.ok.mod.kin M.kp (thn (ha.run pos pins s0 σ H _ I0 h) fun us s1 ⟨vs, H1, I1, r, q⟩ => ⟨I1.kIn, ?_⟩) he hpl
  have hq := q.run (s1.heap.objs.size + 1) s1.heap.objs.size (I1.hok.fresh (Nat.le_succ _)) (I1.hok.fresh (Nat.le_refl _)) (Nat.ne_of_lt (Nat.lt_succ_self _))
  have I2 := Inv.made (C := C) I1
  have r2 : Vals (V.ref (s1.heap.objs.size + 1) :: vs) (Value.ref (s1.heap.objs.size + 1) :: us) := .cons rfl r
  refine wpAny_call (make_map (f := f) I1.kIn M.makes M.init (beq_iff_eq.mp M.fn) (codeAny_mono (F _ X.stack _ _ (Value.ref (s1.heap.objs.size + 1) :: us) _ _ (E σ) (hr.make C us []) (I2.env0.make C us []) r2 hq) fun r s' hq' => ?_))
  cases r with
  | error e => exact hx σ pins _ _ e s' I2 hq'
  | ok fl =>
    cases fl with
    | ret u =>
      obtain ⟨v, H', I3, rv, ev, q3⟩ := I2.after hq'
      subst ev
      exact ⟨rv, ⟨V.ref (s1.heap.objs.size + 1), H', I3, rfl, q3⟩⟩
    | next => exact False.elim hq'
    | brk => exact False.elim hq'
    | cont => exact False.elim hq'
theorem run_cmS {pins : List (Addr × Obj)} {σ : L2.St} {H : Hp} {s : Shared} {q : Addr} {Q : VK} {us : List Value} {vs : List V} (F : FnR X.prog X.w X.K X.mg X.base CX k g sp) (hr : Room k X.A) (hx : PassesAt CX X σ (E σ)) (I : L2.Inv X ((q, PySem.W.methodObj (.ref g) (.ref C)) :: pins) σ H s)
    (r : Vals vs us) (h : sp (.ref C :: vs) H Q (E σ)) : wpAny (model X.prog X.w) X.A (call (.ref q) us) (EP X pins σ Q) X.xe s := by
  have z : wpAny (model X.prog X.w) X.A (call (.ref q) us) (EP X ((q, PySem.W.methodObj (.ref g) (.ref C)) :: pins) σ Q) X.xe s :=
    wpAny_call (PySem.W.method_call (ClX.pin_at I) (run_fnRS (us := .ref C :: us) (vs := .ref C :: vs) F hr hx I (.cons rfl r) h))
  exact wpAny_mono z (fun _ _ h => ClX.unpinE h) fun _ _ h => h
def tCMethS (C : Addr) (sp : Sp) (E : L2.St → XK) (ta : TE) (t : TA) : TE := fun σ H Q => ta σ H fun x H1 => x = .ref C ∧ t σ H1 fun vs H2 => sp (.ref C :: vs) H2 Q (E σ)
theorem pe_cmethS (he : PE X o ta) (r : ClX.CRead X.K C mc) (c : ClX.CMet X.K C mc m p0 g) (F : FnR X.prog X.w X.K X.mg X.base CX k g sp) (hr : Room k X.A) (hx : ∀ σ, PassesAt CX X σ (E σ)) (ha : PA X (e :: es) t)
    (hst : starEach (e :: es) X.env = (false, eval e X.env) :: starEach es X.env := by rfl) (hpl : (backTo pos (starEach es X.env)).any (·.1) = false := by rfl)
    (ht : eval (.Call (.Attribute o m apos) (e :: es) [] pos) X.env = (do
      let ov ← eval o X.env
      standAt apos.atName
      let (f, first) ← holding [ov] (getMethod ov m pl)
      callWith pos f first (backTo pos (starEach (e :: es) X.env)) (backToKw pos (keywordEach [] X.env))) := by rfl) :
    PE X (.Call (.Attribute o m apos) (e :: es) [] pos) (tCMethS C sp E ta t) := by
  refine ⟨fun pins s σ H Q I h => ?_⟩
  refine PySem.W.methodCall_KW (pl := pl) (thn (he.run pins s σ H _ I h) fun u s1 ⟨x, H1, I1, rx, ex, q⟩ => ?_) ht
  subst ex
  obtain rfl : u = Value.ref C := rx
  refine ClX.getmethcm_ok I1 r c fun s2 I2 => ?_
  refine ClX.callwith_cm I2 (ClX.base_none I1 (Nat.le_refl _)) c.fi (thn (ha.run pos _ s2 σ H1 _ I2 q) fun us s3 ⟨vs, H2, I3, rv, q2⟩ => ⟨⟨ClX.pin_at I3, I3.kIn⟩, ?_⟩) hst hpl
  exact run_cmS F hr (hx σ) I3 rv q2
end
end Own

/-! Unary operators, str, and == against anything, of own classes. -/
namespace Own
open PySem PySem.Spec PyProof.Rows L2
section
variable {X : Cx} {CX : CXT} {k : Nat} {C g : Addr} {sp : Sp} {E : XK}
def rOwn1 (C : Addr) (sp : Sp) (E : XK) : V → Hp → VK → Prop := fun x H Q => ∃ a dx fs, x = .ref a ∧ H a = some (.ins C dx fs) ∧ sp [.ref a] H Q E
theorem un_own (F : FnR X.prog X.w X.K X.mg X.base CX k g sp) (hs : PySem.W.findIn X.K (.ref C) "__invert__" = some (some (.ref g))) (hf : PySem.W.isFn X.K (.ref g) = true) (hr : Room k X.A) (hx : Passes CX X E) :
    UnR X (PySem.unaryOp .Invert) (rOwn1 C sp E) := by
  intro pins s σ H x v Q I rx h
  obtain ⟨a, dx, fs, rfl, ha, hsp⟩ := h
  cases rx
  obtain ⟨mA, J, _⟩ := ins_get I.hok ha
  obtain ⟨od, J, _⟩ := J.look
  obtain ⟨m, hF⟩ := I.fr
  unfold PySem.unaryOp
  refine wpAny_holding ?_
  show wpAny _ _ (PySem.callSpecial? (.ref a) "__invert__" [] >>= _) _ _ _
  refine wpAny_bind (PySem.W.special_fn (I.ok.mod.kin.keeps hF.keep) J hs (beq_iff_eq.mp hf) (wpAny_mono (wpAny_call (run_fnR F hr hx I (us := [.ref a]) (vs := [.ref a]) (.cons rfl .nil) hsp)) (fun _ _ z => wpAny_pure z) fun _ _ z => z))
/-- str of an instance -/
def rStrO (C : Addr) (sp : Sp) (E : XK) : List V → Hp → VK → Prop := fun xs H Q => ∃ a dx fs, xs = [.ref a] ∧ H a = some (.ins C dx fs) ∧ sp [.ref a] H (fun v H' => ∃ y, v = .str y ∧ Q v H') E
theorem call_strO (F : FnR X.prog X.w X.K X.mg X.base CX k g sp) (hs : PySem.W.findIn X.K (.ref C) "__str__" = some (some (.ref g))) (hf : PySem.W.isFn X.K (.ref g) = true)
    (hr : Room (k + 2) X.A) (hx : Passes CX X E) : CallR X (.type "str") (rStrO C sp E) := by
  intro pins s σ H xs us Q I r h
  obtain ⟨a, dx, fs, rfl, ha, hsp⟩ := h
  obtain ⟨u, rfl, r1⟩ : ∃ u, us = [u] ∧ RelV (.ref a) u := by
    cases r with
    | cons r1 rr =>
      cases rr
      exact ⟨_, rfl, r1⟩
  cases r1
  obtain ⟨mA, J, _⟩ := ins_get I.hok ha
  obtain ⟨od, J, _⟩ := J.look
  obtain ⟨m, hF⟩ := I.fr
  refine PySem.W.kso_call ?_ (I.ok.mod.kin.keeps hF.keep) J hs hf (wpAny_mono (run_at F ?_ ?_ hx I (us := [.ref a]) (vs := [.ref a]) (.cons rfl .nil) hsp) (fun u s' z => ?_) fun _ _ z => z)
  · have := hr.un
    show X.A.units + 1 + 1 < _
    omega
  · exact (Room.in1 (k := k + 1) hr).in1
  · exact I.env0.frames
  · obtain ⟨v, H', I', rv, y, rfl, q⟩ := z
    obtain ⟨t, rfl⟩ := rv
    exact ⟨.str y, H', I', ⟨t, rfl⟩, q⟩
/-- an instance compared with a tuple -/
def rOwnT (C : Addr) (sp : Sp) (E : XK) : R2 := fun x y H Q => ∃ a b dx fs ys, x = .ref a ∧ y = .ref b ∧ H a = some (.ins C dx fs) ∧ H b = some (.tup ys) ∧ sp [.ref a, .ref b] H Q E
theorem op_cmpT {op : CmpOp} (hop : ∀ v u, compareOp op v u = richCompare op v u) (F : FnR X.prog X.w X.K X.mg X.base CX k g sp) (hs : PySem.W.findIn X.K (.ref C) (cmpInfo op).2.1 = some (some (.ref g))) (hf : PySem.W.isFn X.K (.ref g) = true)
    (hsub : PySem.W.subIn X.K (.type "tuple") (.ref C) = some false) (hr : Room k X.A) (hx : Passes CX X E) : OpR X (compareOp op) (rOwnT C sp E) := by
  intro pins s σ H x y v u Q I rx ry h
  obtain ⟨a, b, dx, fs, ys, rfl, rfl, ha, hb, hsp⟩ := h
  cases rx
  cases ry
  obtain ⟨mA, J, _⟩ := ins_get I.hok ha
  obtain ⟨od, J, _⟩ := J.look
  obtain ⟨m, hF⟩ := I.fr
  obtain ⟨_, _, _, p⟩ := (show ObjOk X.prog X.w H s.heap b (.tup ys) from I.hok b _ hb)
  obtain ⟨o, h1, h2, _⟩ := p
  rw [hop]
  refine PySem.W.cmp_K (op := op) (tb := .type "tuple") hr.units0 hF I.ok.mod.kin J (PySem.W.kitAt_ty _ _ ⟨o, h1, h2⟩) (by simp [PySem.W.notFirst, hsub]) hs hf ?_
  exact wpAny_mono (wpAny_call (run_fnR F hr hx I (us := [.ref a, .ref b]) (vs := [.ref a, .ref b]) (.cons rfl (.cons rfl .nil)) hsp)) (fun _ _ z => back z) fun _ _ z => z
end
end Own

/-! What the law's own defs of several laws want: comprehensions told by a function, draws, texts as data. -/
namespace Law
open PySem PySem.Spec PyProof.Rows L2
def SameB (b : Addr) (H H' : Hp) : Prop := ∀ c o, c ≠ b → H c = some o → H' c = some o
theorem SameB.of {b : Addr} {H H' : Hp} (k : ∀ c, c ≠ b → H' c = H c) : SameB b H H' := fun c o n e => (k c n).trans e
theorem SameB.trans {b : Addr} {H H1 H2 : Hp} (s : SameB b H H1) (t : SameB b H1 H2) : SameB b H H2 := fun c o n e => t c o n (s c o n e)
theorem SameB.of_same {b : Addr} {H H' : Hp} (s : Same H H') : SameB b H H' := fun c o _ e => s c o e
theorem same_tr {H H1 H2 : Hp} (s : Same H H1) (t : Same H1 H2) : Same H H2 := fun c o e => t c o (s c o e)
theorem same_rfl {H : Hp} : Same H H := fun _ _ e => e
theorem Room.u65 {k : Nat} {A : Around} (r : Room k A) : A.units + 65 < cLine := by have := r.un; omega
theorem Box.free {H : Hp} {b l d : Addr} (B : Box H b l) (h : H d = none) : b ≠ d ∧ l ≠ d := by
  obtain ⟨ns, i, q, s, h1, h2, _⟩ := B
  exact ⟨ne_of_none h1 h, ne_of_none h2 h⟩
theorem Box.at {H : Hp} {b l d : Addr} {o : HO} (B : Box H b l) (n : b ≠ d ∧ l ≠ d) : Box (upd H d o) b l := B.keep fun c hc => by
  rcases hc with rfl | rfl
  · exact upd_ne n.1
  · exact upd_ne n.2
theorem Box.same {H H' : Hp} {b l : Addr} (B : Box H b l) (s : Same H H') : Box H' b l := by
  obtain ⟨ns, i, q, s', h1, h2, h3⟩ := B
  exact ⟨ns, i, q, s', s _ _ h1, s _ _ h2, h3⟩
theorem Box.neT {H : Hp} {b l c : Addr} {xs : List V} (B : Box H b l) (h : H c = some (.tup xs)) : c ≠ b := fun z => by
  obtain ⟨_, _, _, _, q, _⟩ := B
  rw [z, q] at h
  cases h
theorem Box.neD {H : Hp} {b l c : Addr} {kv : List (Key × V)} (B : Box H b l) (h : H c = some (.dK kv)) : c ≠ b ∧ c ≠ l := by
  obtain ⟨_, _, _, _, q, q2, _⟩ := B
  exact ⟨fun z => (by rw [z, q] at h; cases h), fun z => (by rw [z, q2] at h; cases h)⟩
theorem Box.neI {H : Hp} {b l c C dx : Addr} {fs : List (Str × V)} (B : Box H b l) (h : H c = some (.ins C dx fs)) : c ≠ b ∧ c ≠ l := by
  obtain ⟨_, _, _, _, q, q2, _⟩ := B
  exact ⟨fun z => (by rw [z, q] at h; cases h), fun z => (by rw [z, q2] at h; cases h)⟩
theorem same_new {H : Hp} {p : Addr} {o : HO} (h : H p = none) : Same H (upd H p o) := fun b o' e => by
  rw [upd_ne (ne_of_none e h)]
  exact e
theorem none_back {H H' : Hp} {x : Addr} (s : Same H H') (h : H' x = none) : H x = none := by
  cases e : H x with
  | none => rfl
  | some o =>
    have z := s _ _ e
    rw [h] at z
    cases z
/-- within a comprehension whose turn i adds out i (or nothing), all else new -/
def LcP (D : Addr) (H1 : Hp) (out : Nat → Option V) (i : Nat) (H : Hp) : Prop := H D = some (.lst ((List.range i).filterMap out)) ∧ Same H1 H
section
variable {D : Addr} {H1 H H4 : Hp} {out : Nat → Option V} {i : Nat} {y : V}
theorem LcP.start (hD : H1 D = none) : LcP D H1 out 0 (upd H1 D (.lst [])) := ⟨upd_same, same_new hD⟩
theorem fm_len (i : Nat) : ((List.range i).filterMap out).length ≤ i := by
  have := List.length_filterMap_le out (List.range i)
  rw [List.length_range] at this
  exact this
theorem fm_succ : (List.range (i + 1)).filterMap out = (List.range i).filterMap out ++ (out i).toList := by
  rw [List.range_succ, List.filterMap_append]
  cases e : out i <;> simp [e]
theorem LcP.push (h : LcP D H1 out i H) (hD : H1 D = none) (s : Same H H4) (ho : out i = some y) (hi : i < 1000) :
    ∃ acc, H4 D = some (.lst acc) ∧ acc.length < sizeLine ∧ LcP D H1 out (i + 1) (upd H4 D (.lst (acc ++ [y]))) := by
  refine ⟨_, s _ _ h.1, small1000 (Nat.le_of_lt (Nat.lt_of_le_of_lt (fm_len i) hi)), ?_, fun b o e => ?_⟩
  · rw [upd_same, fm_succ, ho]
    rfl
  · rw [upd_ne (ne_of_none e hD)]
    exact s _ _ (h.2 _ _ e)
theorem LcP.skip (h : LcP D H1 out i H) (s : Same H H4) (ho : out i = none) : LcP D H1 out (i + 1) H4 := by
  refine ⟨?_, same_tr h.2 s⟩
  rw [fm_succ, ho, s _ _ h.1]
  simp
end
theorem range_fm {α β : Type} (f : α → Option β) (xs : List α) : (List.range xs.length).filterMap (fun i => xs[i]?.bind f) = xs.filterMap f := by
  induction xs with
  | nil => rfl
  | cons x xs ih =>
    rw [List.length_cons, List.range_succ_eq_map, List.filterMap_cons, List.filterMap_map, List.filterMap_cons]
    have e : (fun i => (x :: xs)[i]?.bind f) ∘ Nat.succ = fun i => xs[i]?.bind f := by
      funext i
      simp
    rw [e, ih]
    simp
theorem range_id {α : Type} (xs : List α) : (List.range xs.length).filterMap (fun i : Nat => xs[i]?) = xs := by
  have e := range_fm (some : α → Option α) xs
  have e1 : (fun i : Nat => xs[i]?.bind some) = fun i : Nat => xs[i]? := by
    funext i
    cases xs[i]? <;> rfl
  rw [e1] at e
  rw [e]
  simp
theorem fm_any {α β : Type} (p : α → Bool) (f : α → β) (xs : List α) : decide ((0 : Int) < (((xs.filterMap fun c => if p c = true then none else some (f c)).length : Nat) : Int)) = xs.any fun c => !p c := by
  induction xs with
  | nil => rfl
  | cons x xs ih =>
    rw [List.filterMap_cons, List.any_cons, ← ih]
    cases h : p x with
    | true => simp
    | false =>
      simp
theorem at_nat {xs : List V} {j : Nat} {v : V} (h : xs[j]? = some v) : atI xs (j : Int) = some v := atI_nat h
/-! texts as data -/
theorem ok_str {y : Str} (h : ∀ c ∈ y.cps.toList, c < 1114112) : PyData.canLay0 (.str y) = true := by
  have e : PyData.canLay0 (.str y) = PyData.strOk y := by simp only [PyData.canLay0]
  rw [e]
  unfold PyData.strOk
  rw [← Array.all_toList, List.all_eq_true]
  intro c hc
  exact decide_eq_true (h c hc)
theorem ok_strs : ∀ {ys : List Str}, (∀ y ∈ ys, ∀ c ∈ y.cps.toList, c < 1114112) → PyData.canLayAll0 (ys.map PyData.str) = true
  | [], _ => by simp only [List.map_nil, PyData.canLayAll0]
  | y :: ys, h => by
    rw [List.map_cons]
    simp only [PyData.canLayAll0]
    rw [Bool.and_eq_true]
    exact ⟨ok_str (h y List.mem_cons_self), ok_strs fun x hx => h x (List.mem_cons_of_mem _ hx)⟩
theorem deep_strs : ∀ ys : List Str, PyData.depthAll (ys.map PyData.str) = 0
  | [] => by simp [PyData.depthAll]
  | y :: ys => by
    rw [List.map_cons]
    simp [PyData.depthAll, PyData.depth, deep_strs ys]
theorem shaped_str {y : Str} (h : ∀ c ∈ y.cps.toList, c < 1114112) : SeqAt.shaped (.str y) = true := by
  unfold SeqAt.shaped
  rw [ok_str h]
  simp [PyData.depth]
theorem shaped_strs {ys : List Str} (h : ∀ y ∈ ys, ∀ c ∈ y.cps.toList, c < 1114112) : SeqAt.shaped (.list (ys.map PyData.str)) = true := by
  unfold SeqAt.shaped
  have e : PyData.canLay0 (.list (ys.map PyData.str)) = true := by
    simp only [PyData.canLay0]
    exact ok_strs h
  rw [e]
  simp [PyData.depth, deep_strs]
theorem dp_strs {K : PySem.W.Frag} {H : Hp} : ∀ ys : List Str, DpAll K H (ys.map V.str) (ys.map PyData.str)
  | [] => .nil
  | _ :: ys => .cons (.str _) (dp_strs ys)
theorem any_strs (ys : List Str) (y : Str) : ((ys.map PyData.str).any fun z => PyData.eqv z (.str y)) = ys.contains y := by
  induction ys with
  | nil => rfl
  | cons x ys ih =>
    rw [List.map_cons, List.any_cons, ih, List.contains_cons]
    have e : PyData.eqv (.str x) (.str y) = (y == x) := by
      simp only [PyData.eqv]
      by_cases h : x = y
      · subst h
        rfl
      · have h1 : (x == y) = false := by simpa using h
        have h2 : (y == x) = false := by simpa using fun z => h z.symm
        rw [h1, h2]
    rw [e]
/-- two shaped data that are told the same are equal -/
theorem eqv_rfl {d : PyData} (h : SeqAt.shaped d = true) : PyData.eqv d d = true := SeqAt.eqv_refl _ (SeqAt.canLay_of_shaped h)
theorem shaped_pair {a b : PyData} (ha : PyData.canLay0 a = true) (hb : PyData.canLay0 b = true) (da : PyData.depth a = 0) (db : PyData.depth b = 0) : SeqAt.shaped (.tuple [a, b]) = true := by
  unfold SeqAt.shaped
  have e : PyData.canLay0 (.tuple [a, b]) = true := by
    simp only [PyData.canLay0, PyData.canLayAll0, ha, hb]
    rfl
  rw [e]
  simp [PyData.depth, PyData.depthAll, da, db]
/-! texts joined without a separator, and cut -/
theorem joinL_mem : ∀ {ls : List (List Nat)} {c : Nat}, c ∈ TL.joinL [] ls → ∃ x ∈ ls, c ∈ x
  | [], c, h => by cases h
  | [p], c, h => ⟨p, List.mem_cons_self, h⟩
  | p :: q :: r, c, h => by
    rcases List.mem_append.mp h with h | h
    · exact ⟨p, List.mem_cons_self, h⟩
    · obtain ⟨x, hx, hc⟩ := joinL_mem (ls := q :: r) h
      exact ⟨x, List.mem_cons_of_mem _ hx, hc⟩
theorem joinL_len : ∀ (ls : List (List Nat)), (TL.joinL [] ls).length = (ls.map List.length).sum
  | [] => rfl
  | [p] => by simp [TL.joinL]
  | p :: q :: r => by
    show (p ++ ([] ++ TL.joinL [] (q :: r))).length = _
    rw [List.nil_append, List.length_append, joinL_len (q :: r)]
    rfl
theorem join_cps (ys : List Str) : (Txt.join "" ys).cps.toList = TL.joinL [] (ys.map fun y => y.cps.toList) := by
  have e := TL.tl_join ("" : Str) ys
  have e2 : Txt.join "" ys = Str.join "" ys := TL.join_eq _ _
  rw [e2]
  exact e
theorem cut_mem {z : Str} {lo hi : Option Int} {c : Nat} (h : c ∈ (cutS z lo hi).cps.toList) : c ∈ z.cps.toList := by
  unfold cutS at h
  exact List.mem_of_mem_drop (List.mem_of_mem_take (by simpa using h))
theorem cut_len {z : Str} {lo hi : Option Int} : (cutS z lo hi).length ≤ z.length := by
  show (((z.cps.toList.drop _).take _).toArray).size ≤ z.cps.size
  simp
  omega
theorem cps_app (a b : Str) : (a ++ b).cps.toList = a.cps.toList ++ b.cps.toList := TL.tl_append a b
end Law

namespace Law
open PySem PySem.Spec PyProof.Rows L2 Sup
abbrev sTini : Stmt := inClass (top 6) 0
abbrev sTln : Stmt := inClass (top 6) 1
abbrev sAgr : Stmt := inClass (top 6) 2
abbrev sTnv : Stmt := inClass (top 6) 3
abbrev sTeq : Stmt := inClass (top 6) 4
abbrev sTst : Stmt := inClass (top 6) 5
/-- a trial of the class at CT -/
def Tri (CT : Addr) (H : Hp) (x : Addr) (p h : Int) (r : Bool) : Prop := ∃ dx fs, H x = some (.ins CT dx fs) ∧ fs.lookup ("place" : Str) = some (V.int p) ∧ fs.lookup ("height" : Str) = some (V.int h) ∧ fs.lookup ("reached" : Str) = some (V.bl r) ∧ fs.lookup ("agrees" : Str) = none
theorem Tri.same {CT : Addr} {H H' : Hp} {x : Addr} {p h : Int} {r : Bool} (t : Tri CT H x p h r) (s : Same H H') : Tri CT H' x p h r := by
  obtain ⟨dx, fs, h1, h2⟩ := t
  exact ⟨dx, fs, s _ _ h1, h2⟩
structure TriTxt (K : PySem.W.Frag) (mg : Str → Option Value) (CT : Addr) : Prop where
  tri : mg "Trial" = some (.ref CT)
  isi : mg "isinstance" = none
  b_len : mg "len" = none
  cl : Cls K CT
  nP : NoAttr K CT "place"
  nH : NoAttr K CT "height"
  nR : NoAttr K CT "reached"
  ha : PySem.W.findIn K (.ref CT) "__class__" = some (some (.builtin "object.__class__"))
  hn : PySem.W.specialIn K (.builtin "object.__class__") "__get__" = some (some (.builtin "getset_descriptor.__get__"))
  ht : PySem.W.takesIn K (.builtin "object.__class__") = some true
  hm : PySem.W.mroIn K CT (.type "object") = some true
def spTini (CT : Addr) : Sp := fun vs H Q _ => ∃ (x : Addr) (p h : Int) (r : Bool) (dx : Addr), vs = [.ref x, .int p, .int h, .bl r] ∧ H x = some (.ins CT dx []) ∧
  (∀ fs, fs.lookup ("place" : Str) = some (V.int p) → fs.lookup ("height" : Str) = some (V.int h) → fs.lookup ("reached" : Str) = some (V.bl r) → fs.lookup ("agrees" : Str) = none → Q .non (upd H x (.ins CT dx fs)))
theorem mk_tri {CT : Addr} {p h : Int} {r : Bool} {H1 : Hp} {Q : VK} {E : XK} (h2 : ∀ x H2, H1 x = none → Same H1 H2 → Tri CT H2 x p h r → Q (.ref x) H2) :
    Own.MkS CT (spTini CT) E [.int p, .int h, .bl r] H1 Q := ⟨fun x dx hx hdx hne => by
  refine ⟨x, p, h, r, dx, rfl, upd_same, fun fs l1 l2 l3 l4 => ⟨rfl, ?_⟩⟩
  rw [upd_upd]
  refine h2 x _ hx (fun b o e => ?_) ⟨dx, fs, upd_same, l1, l2, l3, l4⟩
  rw [upd_ne (ne_of_none e hx), upd_ne (ne_of_none e hdx)]
  exact e⟩
/-- what the trial says of the heights; none: no such index -/
def agr (xs : List Int) (p h : Int) (r : Bool) : Option Bool := if 0 ≤ p then (xs[p.toNat]?).map (fun z => if r then decide (z ≤ h) else decide (h < z)) else none
def NoPl (CP : Addr) (E : XK) (H : Hp) (p : Int) : Prop := ∀ H' d, Same H H' → H' d = none → E (.ref CP) (some d) (upd H' d (.xd [(("place" : Str), V.int p)]))
def spAgr (K : PySem.W.Frag) (CP CT : Addr) : Sp := fun vs H Q E => ∃ (x l : Addr) (p h : Int) (r : Bool) (xs : List Int), vs = [.ref x, .ref l] ∧ Tri CT H x p h r ∧ SqL K H l (xs.map V.int) ∧ p.natAbs < 2 ^ 1000 ∧
  (∀ b, agr xs p h r = some b → Q (.bl b) H) ∧ (agr xs p h r = none → NoPl CP E H p)
def spTnv (CT : Addr) : Sp := fun vs H Q _ => ∃ (x : Addr) (p h : Int) (r : Bool), vs = [.ref x] ∧ Tri CT H x p h r ∧ ∀ y H', H y = none → Same H H' → Tri CT H' y p h (!r) → Q (.ref y) H'
def spTeq (CT : Addr) : Sp := fun vs H Q _ => ∃ (a : Addr) (p h : Int) (r : Bool) (b : Addr), vs = [.ref a, .ref b] ∧ Tri CT H a p h r ∧
  ((∃ p' h' r', Tri CT H b p' h' r' ∧ Q (.bl (decide (p = p') && (decide (h = h') && decide (r = r')))) H) ∨ (∃ xs, H b = some (.tup xs) ∧ Q (.bl false) H))
def spTln (CE CL CT : Addr) : Sp := fun vs H Q E => ∃ (p L k f : Int) (a : Addr) (r : Bool), vs = [.ref CT, .int p, .ref a, .int f, .bl r] ∧ Lad CL H a L k ∧ Sz L ∧ Sz f ∧ 0 ≤ L ∧ (f < 0 → BadS CE E H f) ∧
  (0 ≤ f → ∀ q, ReachR L f q → ∀ x H', H x = none → Same H H' → Tri CT H' x p q r → Q (.ref x) H')
def triTxt (p h : Int) (r : Bool) : Str := (((Str.empty ++ Str.ofString (toString p)) ++ (" " : Str)) ++ Str.ofString (toString h)) ++ (if r then (" reached" : Str) else (" missed" : Str))
def spTst (CT : Addr) : Sp := fun vs H Q _ => ∃ (a : Addr) (p h : Int) (r : Bool), vs = [.ref a] ∧ Tri CT H a p h r ∧ p.natAbs < 2 ^ 1000 ∧ h.natAbs < 2 ^ 1000 ∧ Q (.str (triTxt p h r)) H
section
variable {P : Program} {w : World} {K : PySem.W.Frag} {mg : Str → Option Value} {base : Heap} {CP CT : Addr}
theorem kit_ownT : PySem.W.kitOne K (.ref CT) (.ref CT) = some true := by
  unfold PySem.W.kitOne
  rw [if_pos (beq_self_eq_true _)]
theorem scTini : FnScope ["self", "place", "height", "reached"] ["self", "place", "height", "reached"] (defScope sTini) := ⟨rfl, rfl, rfl, by decide +kernel, rfl, by decide +kernel, by decide +kernel⟩
theorem ok_tini {f : Addr} {fd : FuncData} (F : Fun K "__init__" "Trial.__init__" sTini f fd) (T : TriTxt K mg CT) : FnOk P w K mg base CX0 1 f fd ["self", "place", "height", "reached"] (spTini CT) := by
  refine F.ok scTini (fun vs H Q E h => ?_) (fun cdv A outer s H vs Q E hr h => ?_)
  · obtain ⟨x, p, h, r, dx, rfl, _⟩ := h
    rfl
  · obtain ⟨x, p, h, r, dx, rfl, hx, k⟩ := h
    refine ⟨_, (pss_cons (ps_fld (pv 0) (pv 1) rfl)
      (pss_cons (ps_fld (pv 0) (pv 2) rfl)
      (pss_one (ps_fld (pv 0) (pv 3) rfl)))), ?_⟩
    refine ⟨_, rfl, _, rfl, x, CT, dx, _, rfl, hx, T.cl, T.nP, by show 0 < 1000; decide, ?_⟩
    refine ⟨_, rfl, _, rfl, x, CT, dx, _, rfl, upd_same, T.cl, T.nH, by show 1 < 1000; decide, ?_⟩
    refine ⟨_, rfl, _, rfl, x, CT, dx, _, rfl, upd_same, T.cl, T.nR, by show 2 < 1000; decide, ?_⟩
    rw [upd_upd, upd_upd]
    exact k _ rfl rfl rfl rfl
theorem scAgr : FnScope ["self", "heights"] ["self", "heights"] (defScope sAgr) := ⟨rfl, rfl, rfl, by decide +kernel, rfl, by decide +kernel, by decide +kernel⟩
theorem ok_agr {f : Addr} {fd : FuncData} (F : Fun K "agrees" "Trial.agrees" sAgr f fd) (RP : ErrOk P w K mg base "NoPlace" CP "place" okInt) (T : TriTxt K mg CT) : FnOk P w K mg base (L2.CX P w) 4 f fd ["self", "heights"] (spAgr K CP CT) := by
  refine F.okX scAgr (fun vs H Q E h => ?_) (fun cdv A outer s H vs Q E hr h => ?_)
  · obtain ⟨x, l, p, h, r, xs, rfl, _⟩ := h
    rfl
  · obtain ⟨x, l, p, h, r, xs, rfl, ⟨dx, fs, hx, l1, l2, l3, l4⟩, hS, sp, h1, h2⟩ := h
    have hr3 : Room 3 _ := hr
    have hp' : p.natAbs.log2 < 1920 := log_of (by decide) (Nat.lt_of_lt_of_le sp (Nat.pow_le_pow_right (by decide) (by decide)))
    refine ⟨_, (pss_cons (ps_if (pt_not (pt_chain op_le op_lt pe_int (pe_fld (pv 0) rfl) (pe_callB call_len_seq (by rfl) T.b_len PySem.boot_len (pa_cons (pv 1) pa_nil)))) (pss_one (ps_err RP rfl (takes_of rfl rfl rfl rfl) hr3 (pa_cons (pe_fld (pv 0) rfl) pa_nil) rfl)) pss_nil)
      (pss_cons (ps_if (pt_val (pe_fld (pv 0) rfl)) (pss_one (ps_ret (pe_cmpR op_le (pe_ix ix_list (pv 1) (pe_fld (pv 0) rfl) (fun _ _ => rfl)) (pe_fld (pv 0) rfl) (nomark _)))) pss_nil)
      (pss_one (ps_ret (pe_cmpR op_gt (pe_ix ix_list (pv 1) (pe_fld (pv 0) rfl) (fun _ _ => rfl)) (pe_fld (pv 0) rfl) (nomark _)))))), ?_⟩
    refine ⟨_, rfl, x, CT, dx, fs, _, rfl, hx, T.cl, T.nP, l1, _, _, rfl, rfl, _, rfl, ?_⟩
    by_cases c0 : 0 ≤ p
    · refine if_t (decide_eq_true c0) ⟨_, rfl, l, _, rfl, .inl hS, _, _, rfl, rfl, _, rfl, ?_⟩
      rw [List.length_map]
      by_cases c1 : p < xs.length
      · obtain ⟨z, hz⟩ : ∃ z, xs[p.toNat]? = some z := ⟨_, List.getElem?_eq_getElem (by omega)⟩
        have hz' : atI (xs.map V.int) p = some (V.int z) := by
          obtain ⟨n, rfl⟩ := Int.eq_ofNat_of_zero_le c0
          exact atI_nat (by rw [List.getElem?_map]; simp at hz; rw [hz]; rfl)
        have hag : agr xs p h r = some (if r then decide (z ≤ h) else decide (h < z)) := by
          unfold agr
          rw [if_pos c0, hz]
          rfl
        have q := h1 _ hag
        refine if_f (by rw [decide_eq_true c1]; rfl) ?_
        refine ⟨_, rfl, x, CT, dx, fs, _, rfl, hx, T.cl, T.nR, l3, r, rfl, ?_⟩
        cases r with
        | true =>
          refine if_t rfl ?_
          refine ⟨_, rfl, _, rfl, x, CT, dx, fs, _, rfl, hx, T.cl, T.nP, l1, l, _, _, _, rfl, rfl, hS, hz', _, rfl, x, CT, dx, fs, _, rfl, hx, T.cl, T.nH, l2, _, _, rfl, rfl, ?_⟩
          exact q
        | false =>
          refine if_f rfl ?_
          refine ⟨_, rfl, _, rfl, x, CT, dx, fs, _, rfl, hx, T.cl, T.nP, l1, l, _, _, _, rfl, rfl, hS, hz', _, rfl, x, CT, dx, fs, _, rfl, hx, T.cl, T.nH, l2, _, _, rfl, rfl, ?_⟩
          exact q
      · have hn : agr xs p h r = none := by
          unfold agr
          rw [if_pos c0, List.getElem?_eq_none (by omega)]
          rfl
        refine if_t (by rw [decide_eq_false c1]; rfl) ⟨_, rfl, x, CT, dx, fs, _, rfl, hx, T.cl, T.nP, l1, ?_⟩
        exact err_way ⟨p, rfl, hp'⟩ fun d hd => h2 hn _ d (fun _ _ e => e) hd
    · have hn : agr xs p h r = none := by
        unfold agr
        rw [if_neg c0]
      refine if_f (decide_eq_false c0) ⟨_, rfl, ?_⟩
      refine if_t rfl ⟨_, rfl, x, CT, dx, fs, _, rfl, hx, T.cl, T.nP, l1, ?_⟩
      exact err_way ⟨p, rfl, hp'⟩ fun d hd => h2 hn _ d (fun _ _ e => e) hd
theorem scTnv : FnScope ["self"] ["self"] (defScope sTnv) := ⟨rfl, rfl, rfl, by decide +kernel, rfl, by decide +kernel, by decide +kernel⟩
theorem ok_tnv {f fI : Addr} {fd : FuncData} (F : Fun K "__invert__" "Trial.__invert__" sTnv f fd) (MK : Mk K CT fI) (GI : FnR P w K mg base CX0 1 fI (spTini CT)) (T : TriTxt K mg CT) : FnOk P w K mg base CX0 3 f fd ["self"] (spTnv CT) := by
  refine F.ok scTnv (fun vs H Q E h => ?_) (fun cdv A outer s H vs Q E hr h => ?_)
  · obtain ⟨x, p, h, r, rfl, _⟩ := h
    rfl
  · obtain ⟨x, p, h, r, rfl, ⟨dx, fs, hx, l1, l2, l3, l4⟩, k⟩ := h
    refine ⟨_, (pss_one (ps_ret (Own.pe_makeS (E := fun _ => E) MK GI hr rfl T.tri (passS pass0) (pa_cons (pe_fld (pv 0) rfl) (pa_cons (pe_fld (pv 0) rfl) (pa_cons (pe_not (pe_fld (pv 0) rfl)) pa_nil)))))), ?_⟩
    refine ⟨_, rfl, x, CT, dx, fs, _, rfl, hx, T.cl, T.nP, l1, _, rfl, x, CT, dx, fs, _, rfl, hx, T.cl, T.nH, l2, _, rfl, x, CT, dx, fs, _, rfl, hx, T.cl, T.nR, l3, _, rfl, ?_⟩
    exact mk_tri k
theorem scTeq : FnScope ["self", "other"] ["self", "other"] (defScope sTeq) := ⟨rfl, rfl, rfl, by decide +kernel, rfl, by decide +kernel, by decide +kernel⟩
theorem ok_teq {f : Addr} {fd : FuncData} (F : Fun K "__eq__" "Trial.__eq__" sTeq f fd) (T : TriTxt K mg CT) (kI : PySem.W.kitOne K (.type "tuple") (.ref CT) = some false) : FnOk P w K mg base CX0 1 f fd ["self", "other"] (spTeq CT) := by
  refine F.ok scTeq (fun vs H Q E h => ?_) (fun cdv A outer s H vs Q E hr h => ?_)
  · obtain ⟨a, p, h, r, b, rfl, _⟩ := h
    rfl
  · obtain ⟨a, p, h, r, b, rfl, ⟨dx, fs, hx, l1, l2, l3, l4⟩, k⟩ := h
    refine ⟨_, (pss_one (ps_ret (pe_and (pe_callB call_isi (by rfl) T.isi (by decide +kernel) (pa_cons (pv 1) (pa_cons (pe_glob (v := .ref CT) rfl T.tri rfl) pa_nil))) (pe_and (pe_cmpR op_eq (pe_fld (pv 0) rfl) (pe_fld (pv 1) rfl) (nomark _)) (pe_and (pe_cmpR op_eq (pe_fld (pv 0) rfl) (pe_fld (pv 1) rfl) (nomark _)) (pe_one (pe_cmpR op_eq (pe_fld (pv 0) rfl) (pe_fld (pv 1) rfl) (nomark _)))))))), ?_⟩
    rcases k with ⟨p', h', r', ⟨dy, gs, hy, m1, m2, m3, m4⟩, q⟩ | ⟨xs, hb, q⟩
    · refine ⟨_, rfl, V.ref b, V.ref CT, .ref CT, .ref CT, true, rfl, .own _, .base (.ins hy T.cl T.ha T.hn T.ht T.hm), kit_ownT, ?_⟩
      refine ⟨true, rfl, if_t rfl ⟨_, rfl, a, CT, dx, fs, _, rfl, hx, T.cl, T.nP, l1, _, rfl, b, CT, dy, gs, _, rfl, hy, T.cl, T.nP, m1, rfl, ?_⟩⟩
      refine ⟨_, rfl, ?_⟩
      by_cases c1 : p = p'
      · rw [if_pos (by simp [c1])]
        refine ⟨_, rfl, a, CT, dx, fs, _, rfl, hx, T.cl, T.nH, l2, _, rfl, b, CT, dy, gs, _, rfl, hy, T.cl, T.nH, m2, rfl, ?_⟩
        refine ⟨_, rfl, ?_⟩
        by_cases c2 : h = h'
        · rw [if_pos (by simp [c2])]
          refine ⟨_, rfl, a, CT, dx, fs, _, rfl, hx, T.cl, T.nR, l3, _, rfl, b, CT, dy, gs, _, rfl, hy, T.cl, T.nR, m3, rfl, ?_⟩
          have e : decide (V.bl r = V.bl r') = decide (r = r') := by cases r <;> cases r' <;> rfl
          rw [e]
          rw [decide_eq_true c1, decide_eq_true c2] at q
          exact q
        · rw [if_neg (by simp [c2])]
          rw [decide_eq_true c1, decide_eq_false c2] at q
          exact q
      · rw [if_neg (by simp [c1])]
        rw [decide_eq_false c1] at q
        exact q
    · refine ⟨_, rfl, V.ref b, V.ref CT, .type "tuple", .ref CT, false, rfl, .own _, .base (.tup hb), kI, ?_⟩
      exact ⟨_, rfl, if_f rfl q⟩
theorem scTst : FnScope ["self"] ["self"] (defScope sTst) := ⟨rfl, rfl, rfl, by decide +kernel, rfl, by decide +kernel, by decide +kernel⟩
theorem ok_tst {f : Addr} {fd : FuncData} (F : Fun K "__str__" "Trial.__str__" sTst f fd) (T : TriTxt K mg CT) : FnOk P w K mg base CX0 1 f fd ["self"] (spTst CT) := by
  refine F.ok scTst (fun vs H Q E h => ?_) (fun cdv A outer s H vs Q E hr h => ?_)
  · obtain ⟨a, p, h, r, rfl, _⟩ := h
    rfl
  · obtain ⟨a, p, h, r, rfl, ⟨dx, fs, ha, l1, l2, l3, l4⟩, sp, sh, k⟩ := h
    have hp' : p.natAbs.log2 < 1920 := log_of (by decide) (Nat.lt_of_lt_of_le sp (Nat.pow_le_pow_right (by decide) (by decide)))
    have hh' : h.natAbs.log2 < 1920 := log_of (by decide) (Nat.lt_of_lt_of_le sh (Nat.pow_le_pow_right (by decide) (by decide)))
    have zp := int_text_length_le (k := 1920) (by decide) hp'
    have zh := int_text_length_le (k := 1920) (by decide) hh'
    refine ⟨_, (pss_cons (ps_if (pt_val (pe_fld (pv 0) rfl)) (pss_one (ps_ret (pe_joined (.cons (pe_fmt (pe_fld (pv 0) rfl)) (.cons pe_str (.cons (pe_fmt (pe_fld (pv 0) rfl)) (.cons pe_str .nil))))))) pss_nil) (pss_one (ps_ret (pe_joined (.cons (pe_fmt (pe_fld (pv 0) rfl)) (.cons pe_str (.cons (pe_fmt (pe_fld (pv 0) rfl)) (.cons pe_str .nil)))))))), ?_⟩
    have e0 : (Str.empty : Str).length ≤ 10 := by decide +kernel
    have e1 : (" " : Str).length ≤ 10 := by decide +kernel
    have e2 : (" reached" : Str).length ≤ 10 := by decide +kernel
    have e3 : (" missed" : Str).length ≤ 10 := by decide +kernel
    have z1 : (Str.empty ++ Str.ofString (toString p)).length ≤ 1950 := by rw [Str.length_append, PySem.ofString_length]; omega
    have z2 : ((Str.empty ++ Str.ofString (toString p)) ++ (" " : Str)).length ≤ 1960 := by rw [Str.length_append]; omega
    have z3 : (((Str.empty ++ Str.ofString (toString p)) ++ (" " : Str)) ++ Str.ofString (toString h)).length ≤ 3950 := by rw [Str.length_append, PySem.ofString_length]; omega
    have z4 : (triTxt p h r).length ≤ 4010 := by unfold triTxt; rw [Str.length_append]; cases r <;> simp only [if_true, Bool.false_eq_true, if_false] <;> omega
    have big : ∀ n : Nat, n ≤ 4010 → n ≤ sizeLine := fun n h => by rw [sizeLine_eq]; omega
    cases r with
    | true =>
      refine ⟨_, rfl, a, CT, dx, fs, _, rfl, ha, T.cl, T.nR, l3, _, rfl, if_t rfl ?_⟩
      refine ⟨_, rfl, a, CT, dx, fs, _, rfl, ha, T.cl, T.nP, l1, .inr ⟨p, rfl, hp', Str.ofString (toString p), rfl, big _ (by omega), ?_⟩⟩
      refine ⟨_, rfl, big _ (by omega), _, rfl, a, CT, dx, fs, _, rfl, ha, T.cl, T.nH, l2, .inr ⟨h, rfl, hh', Str.ofString (toString h), rfl, big _ (by omega), ?_⟩⟩
      exact ⟨_, rfl, big _ z4, k⟩
    | false =>
      refine ⟨_, rfl, a, CT, dx, fs, _, rfl, ha, T.cl, T.nR, l3, _, rfl, if_f rfl ?_⟩
      refine ⟨_, rfl, a, CT, dx, fs, _, rfl, ha, T.cl, T.nP, l1, .inr ⟨p, rfl, hp', Str.ofString (toString p), rfl, big _ (by omega), ?_⟩⟩
      refine ⟨_, rfl, big _ (by omega), _, rfl, a, CT, dx, fs, _, rfl, ha, T.cl, T.nH, l2, .inr ⟨h, rfl, hh', Str.ofString (toString h), rfl, big _ (by omega), ?_⟩⟩
      exact ⟨_, rfl, big _ z4, k⟩
theorem scTln : FnScope ["cls", "place", "ladder", "foot", "reached"] ["cls", "place", "ladder", "foot", "reached"] (defScope sTln) := ⟨rfl, rfl, rfl, by decide +kernel, rfl, by decide +kernel, by decide +kernel⟩
theorem ok_tln {f fI g : Addr} {fd : FuncData} {CE CL : Addr} (F : Fun K "leant" "Trial.leant" sTln f fd) (MK : Mk K CT fI) (GI : FnR P w K mg base CX0 1 fI (spTini CT)) (CO : StX.CallO K CL g) (GCL : FnR P w K mg base (L2.CX P w) 6 g (spCallL CE CL)) (T : TriTxt K mg CT) : FnOk P w K mg base (L2.CX P w) 7 f fd ["cls", "place", "ladder", "foot", "reached"] (spTln CE CL CT) := by
  refine F.okX scTln (fun vs H Q E h => ?_) (fun cdv A outer s H vs Q E hr h => ?_)
  · obtain ⟨p, L, k, f, a, r, rfl, _⟩ := h
    rfl
  · obtain ⟨p, L, k, f, a, r, rfl, hA, sL, sf, hL, h1, h2⟩ := h
    have hr6 : Room 6 _ := hr
    have hr2 : Room 2 _ := hr.mono (by decide)
    refine ⟨_, (pss_one (ps_ret (Own.pe_makeV (E := fun _ => E) MK GI hr2 (i := 0) rfl (Or.inl rfl) (passS pass0) (pa_cons (pv 1) (pa_cons (Own.pe_callIS (i := 2) (E := fun _ => E) CO GCL hr6 (passS (passes_call (takes_of rfl rfl rfl rfl) fun _ _ _ _ z => z)) rfl (.inl rfl) (pa_cons (pv 3) pa_nil)) (pa_cons (pv 4) pa_nil)))))), ?_⟩
    obtain ⟨dx, fs, ha, _⟩ := id hA
    refine ⟨rfl, _, rfl, ⟨a, rfl, _, rfl, ⟨dx, fs, ha⟩, a, L, k, f, rfl, hA, sL, sf, hL, h1, fun c q R => ?_⟩⟩
    refine ⟨_, rfl, ?_⟩
    exact mk_tri (h2 c q R)
end
end Law

namespace Law
open PySem PySem.Spec PyProof.Rows L2 Sup
abbrev sSays : Stmt := top 15
abbrev sRow : Stmt := top 16
abbrev sWho : Stmt := top 17
abbrev sAgL : Stmt := top 18
abbrev sLea : Stmt := top 19
abbrev sRch : Stmt := top 20
theorem Tri.sameB {CT : Addr} {H H' : Hp} {b l x : Addr} {p h : Int} {r : Bool} (t : Tri CT H x p h r) (B : Box H b l) (s : SameB b H H') : Tri CT H' x p h r := by
  obtain ⟨dx, fs, h1, h2⟩ := t
  exact ⟨dx, fs, s _ _ (B.neI h1).1 h1, h2⟩
def spSays : Sp := fun vs H Q _ => ∃ a b : Bool, vs = [.bl a, .bl b] ∧ Q (.bl (decide (a = b))) H
def rowV (p h : Int) (r : Bool) : List V := [.int p, .int h, .bl r]
def spRow : Sp := fun vs H Q _ => ∃ b l : Addr, vs = [.ref b] ∧ Box H b l ∧ ∀ (p h : Int) (r : Bool) (t : Addr) (H' : Hp), 0 ≤ p → p < 6 → -9 ≤ h → h ≤ 10 ^ 30 → H' t = some (.tup (rowV p h r)) → Box H' b l → SameB b H H' → Q (.ref t) H'
def spWho (CT : Addr) : Sp := fun vs H Q _ => ∃ (x t : Addr) (p h : Int) (r : Bool), vs = [.ref x, .ref t] ∧ Tri CT H x p h r ∧ H t = some (.tup (rowV p h r)) ∧ p.natAbs < 2 ^ 1000 ∧ h.natAbs < 2 ^ 1000 ∧ Q (.bl true) H
def spAgL (K : PySem.W.Frag) (CT : Addr) : Sp := fun vs H Q _ => ∃ (x l : Addr) (p h : Int) (r : Bool) (xs : List Int), vs = [.ref x, .ref l] ∧ Tri CT H x p h r ∧ SqL K H l (xs.map V.int) ∧ p.natAbs < 2 ^ 1000 ∧
  (∀ b, agr xs p h r = some b → Q (.bl b) H) ∧ (agr xs p h r = none → ∀ t H', Same H H' → H' t = some (.tup [.str "NoPlace", .int p]) → Q (.ref t) H')
def spLea : Sp := fun vs H Q _ => ∃ (p L f : Int) (r : Bool), vs = [.int p, .int L, .int f, .bl r] ∧ Sz L ∧ Sz f ∧ 0 ≤ L ∧ f < 0 ∧ ∀ (t : Addr) (H' : Hp), Same H H' → H' t = some (.tup [.str "BadNumber", .int f]) → Q (.ref t) H'
def spRch : Sp := fun vs H Q _ => ∃ r L f : Int, vs = [.int r, .int L, .int f] ∧ Sz L ∧ Sz f ∧ 0 ≤ L ∧ 0 ≤ f ∧ ReachR L f r ∧ Q (.bl true) H
theorem str_eq {a b : Str} (h : a.cps.toList = b.cps.toList) : a = b := by
  obtain ⟨a⟩ := a
  obtain ⟨b⟩ := b
  congr 1
  exact Array.toList_inj.mp h
theorem tri_txt {p h : Int} {r : Bool} : triTxt p h r = Str.ofString (toString p) ++ (" " : Str) ++ Str.ofString (toString h) ++ (" " : Str) ++ (if r = true then ("reached" : Str) else ("missed" : Str)) := by
  refine str_eq ?_
  unfold triTxt
  rw [cps_app, cps_app, cps_app, cps_app, cps_app, cps_app, cps_app, cps_app]
  have e0 : (Str.empty : Str).cps.toList = [] := by decide +kernel
  have e1 : (" reached" : Str).cps.toList = (" " : Str).cps.toList ++ ("reached" : Str).cps.toList := by decide +kernel
  have e2 : (" missed" : Str).cps.toList = (" " : Str).cps.toList ++ ("missed" : Str).cps.toList := by decide +kernel
  rw [e0]
  cases r with
  | true => rw [if_pos rfl, if_pos rfl, e1]; simp only [List.nil_append, List.append_assoc]
  | false => rw [if_neg (by decide), if_neg (by decide), e2]; simp only [List.nil_append, List.append_assoc]
structure LTxt (mg : Str → Option Value) (CL CT fT fSy : Addr) : Prop where
  lad : mg "Ladder" = some (.ref CL)
  tri : mg "Trial" = some (.ref CT)
  take : mg "_law_take" = some (.ref fT)
  says : mg "_law_says" = some (.ref fSy)
  b_str : mg "str" = none
section
variable {P : Program} {w : World} {K : PySem.W.Frag} {mg : Str → Option Value} {base : Heap} {CE CP CL CT fT fSy : Addr}
theorem scSays : FnScope ["_law_told", "_law_due"] ["_law_told", "_law_due"] (defScope sSays) := ⟨rfl, rfl, rfl, by decide +kernel, rfl, by decide +kernel, by decide +kernel⟩
theorem ok_says {f : Addr} {fd : FuncData} (F : Fun K "_law_says" "_law_says" sSays f fd) : FnOk P w K mg base CX0 1 f fd ["_law_told", "_law_due"] spSays := by
  refine F.ok scSays (fun vs H Q E h => ?_) (fun cdv A outer s H vs Q E hr h => ?_)
  · obtain ⟨a, b, rfl, _⟩ := h
    rfl
  · obtain ⟨a, b, rfl, k⟩ := h
    refine ⟨_, (pss_cons (ps_if (pt_val (pv 1)) (pss_one (ps_ret (pe_cmpR op_is_bl (pv 0) pe_bl (nomark _)))) pss_nil)
      (pss_one (ps_ret (pe_cmpR op_is_bl (pv 0) pe_bl (nomark _))))), ?_⟩
    cases b with
    | true => exact ⟨_, rfl, true, rfl, if_t rfl ⟨_, rfl, a, true, rfl, rfl, k⟩⟩
    | false => exact ⟨_, rfl, false, rfl, if_f rfl ⟨_, rfl, a, false, rfl, rfl, k⟩⟩
theorem scRow : FnScope ["_law_box_here", "_law_place", "_law_height", "_law_great"] ["_law_box_here"] (defScope sRow) := ⟨rfl, rfl, rfl, by decide +kernel, rfl, by decide +kernel, by decide +kernel⟩
theorem ok_row {f : Addr} {fd fdT : FuncData} (F : Fun K "_law_row" "_law_row" sRow f fd)
    (GT : FnOk P w K mg base CX0 1 fT fdT ["_law_box_here", "_law_size"] spTake) (FT : Fun K "_law_take" "_law_take" sTake fT fdT) (bT : Binds K fdT ["_law_box_here", "_law_size"] []) (T : LTxt mg CL CT fT fSy) : FnOk P w K mg base CX0 2 f fd ["_law_box_here"] spRow := by
  refine F.ok scRow (fun vs H Q E h => ?_) (fun cdv A outer s H vs Q E hr h => ?_)
  · obtain ⟨b, l, rfl, _⟩ := h
    rfl
  · obtain ⟨b, l, rfl, B, k⟩ := h
    have hr1 : Room 1 _ := hr
    refine ⟨_, (pss_cons (ps_set (i := 1) scRow.nd rfl (Or.inl rfl) (pe_call GT hr1 rfl T.take FT.kp bT .nil pass0 (pa_cons (pv 0) (pa_cons pe_int pa_nil))))
      (pss_cons (ps_set (i := 2) scRow.nd rfl (Or.inl rfl) (pe_op op_sub (pe_call GT hr1 rfl T.take FT.kp bT .nil pass0 (pa_cons (pv 0) (pa_cons pe_int pa_nil))) pe_int))
      (pss_cons (ps_set (i := 3) scRow.nd rfl (Or.inl rfl) (pe_call GT hr1 rfl T.take FT.kp bT .nil pass0 (pa_cons (pv 0) (pa_cons (pe_op op_pow pe_int pe_int) pa_nil))))
      (C8.pss_cut (ps_if (pt_cmpR op_eq (pe_call GT hr1 rfl T.take FT.kp bT .nil pass0 (pa_cons (pv 0) (pa_cons pe_int pa_nil))) pe_int (nomark _)) (pss_one (ps_set (i := 2) scRow.nd rfl (Or.inl rfl) (pv 3))) pss_nil)
      (pss_one (ps_ret (pe_tup (pa_cons (pv 1) (pa_cons (pv 2) (pa_cons (pe_cmpR op_eq (pe_call GT hr1 rfl T.take FT.kp bT .nil pass0 (pa_cons (pv 0) (pa_cons pe_int pa_nil))) pe_int (nomark _)) pa_nil)))))))))), ?_⟩
    refine ⟨_, rfl, b, l, _, rfl, B, by decide, by decide, fun p H1 a0 a1 B1 k1 => ?_⟩
    refine ⟨_, rfl, b, l, _, rfl, B1, by decide, by decide, fun h0 H2 b0 b1 B2 k2 => ?_⟩
    refine ⟨_, _, rfl, rfl, ?_⟩
    refine ⟨_, rfl, _, _, rfl, rfl, pow_ok (by decide), b, l, _, rfl, B2, by decide +kernel, by decide +kernel, fun g H3 c0 c1 B3 k3 => ?_⟩
    have g1 : g < 10 ^ 30 := c1
    refine ⟨fun σ' H' => ∃ h : Int, σ' = [some (.ref b), some (.int p), some (.int h), some (.int g)] ∧ -9 ≤ h ∧ h ≤ 10 ^ 30 ∧ Box H' b l ∧ ∀ c, c ≠ b → H' c = H c, ?_, ?_⟩
    · refine ⟨_, rfl, b, l, _, rfl, B3, by decide, by decide, fun q H4 d0 d1 B4 k4 => ⟨rfl, _, rfl, ?_⟩⟩
      have kk : ∀ c, c ≠ b → H4 c = H c := fun c hc => (k4 c hc).trans ((k3 c hc).trans ((k2 c hc).trans (k1 c hc)))
      refine ite2 (fun _ => ?_) fun _ => ?_
      · exact ⟨_, rfl, g, rfl, by omega, by omega, B4, kk⟩
      · exact ⟨h0 - 9, rfl, by omega, by omega, B4, kk⟩
    · rintro σ' H4 ⟨h, rfl, p0, p1, B4, k4⟩
      refine ⟨_, rfl, _, rfl, _, rfl, b, l, _, rfl, B4, by decide, by decide, fun q H5 d0 d1 B5 k5 => ?_⟩
      refine ⟨rfl, by show 3 ≤ sizeLine; decide, fun t ht => ?_⟩
      refine k p h (decide (q = 1)) t _ a0 a1 p0 p1 ?_ (B5.same (same_new ht)) fun c o hc e => same_new ht _ _ ?_
      · rw [upd_same]
        unfold rowV
        have e : decide (V.int q = V.int 1) = decide (q = 1) := by by_cases c : q = 1 <;> simp [c]
        rw [e]
      · rw [k5 c hc, k4 c hc]
        exact e
theorem scWho : FnScope ["_law_trial", "_law_row_here", "_law_word"] ["_law_trial", "_law_row_here"] (defScope sWho) := ⟨rfl, rfl, rfl, by decide +kernel, rfl, by decide +kernel, by decide +kernel⟩
theorem ok_who {f g : Addr} {fd fdSy : FuncData} (F : Fun K "_law_whole" "_law_whole" sWho f fd) (GSy : FnOk P w K mg base CX0 1 fSy fdSy ["_law_told", "_law_due"] spSays) (FSy : Fun K "_law_says" "_law_says" sSays fSy fdSy) (bSy : Binds K fdSy ["_law_told", "_law_due"] []) (T : LTxt mg CL CT fT fSy)
    (GS : FnR P w K mg base CX0 1 g (spTst CT)) (hsS : PySem.W.findIn K (.ref CT) "__str__" = some (some (.ref g))) (hfS : PySem.W.isFn K (.ref g) = true) (TT : TriTxt K mg CT) : FnOk P w K mg base CX0 4 f fd ["_law_trial", "_law_row_here"] (spWho CT) := by
  refine F.ok scWho (fun vs H Q E h => ?_) (fun cdv A outer s H vs Q E hr3 h => ?_)
  · obtain ⟨x, t, p, h, r, rfl, _⟩ := h
    rfl
  · obtain ⟨x, t, p, h, r, rfl, hX, hT, sp, sh, k⟩ := h
    have hr1 : Room 1 _ := hr3.mono (by decide)
    refine ⟨_, (pss_cons (ps_if (PW.pt (pw_or (pt_cmpR op_ne (pe_fld (pv 0) rfl) (pe_ix ix_tup (pv 1) pe_int (fun _ _ => rfl)) (nomark _)) (pw_or (pt_cmpR op_ne (pe_fld (pv 0) rfl) (pe_ix ix_tup (pv 1) pe_int (fun _ _ => rfl)) (nomark _)) (pw_or1 (pt_not (pt_val (pe_call GSy hr1 rfl T.says FSy.kp bSy .nil pass0 (pa_cons (pe_fld (pv 0) rfl) (pa_cons (pe_ix ix_tup (pv 1) pe_int (fun _ _ => rfl)) pa_nil))))))))) (pss_one (ps_ret pe_bl)) pss_nil)
      (pss_cons (ps_set (i := 2) scWho.nd rfl (Or.inl rfl) pe_str)
      (C8.pss_cut (ps_if (pt_val (pe_ix ix_tup (pv 1) pe_int (fun _ _ => rfl))) (pss_one (ps_set (i := 2) scWho.nd rfl (Or.inl rfl) pe_str)) pss_nil)
      (pss_one (ps_ret (pe_cmpR op_eq (pe_callTy (Own.call_strO GS hsS hfS hr3 pass0) (by rfl) T.b_str (by decide +kernel) (pa_cons (pv 0) pa_nil)) (pe_op op_add_str (pe_op op_add_str (pe_op op_add_str (pe_op op_add_str (pe_callTy call_str_int (by rfl) T.b_str (by decide +kernel) (pa_cons (pe_ix ix_tup (pv 1) pe_int (fun _ _ => rfl)) pa_nil)) pe_str) (pe_callTy call_str_int (by rfl) T.b_str (by decide +kernel) (pa_cons (pe_ix ix_tup (pv 1) pe_int (fun _ _ => rfl)) pa_nil))) pe_str) (pv 2)) (nomark _))))))), ?_⟩
    obtain ⟨dx, fs, hx, l1, l2, l3, l4⟩ := id hX
    have hp' : p.natAbs.log2 < 1920 := log_of (by decide) (Nat.lt_of_lt_of_le sp (Nat.pow_le_pow_right (by decide) (by decide)))
    have hh' : h.natAbs.log2 < 1920 := log_of (by decide) (Nat.lt_of_lt_of_le sh (Nat.pow_le_pow_right (by decide) (by decide)))
    have zp : (Str.ofString (toString p)).length ≤ 1921 := by rw [PySem.ofString_length]; exact int_text_length_le (k := 1920) (by decide) hp'
    have zh : (Str.ofString (toString h)).length ≤ 1921 := by rw [PySem.ofString_length]; exact int_text_length_le (k := 1920) (by decide) hh'
    have e1 : (" " : Str).length ≤ 10 := by decide +kernel
    have e2 : ("reached" : Str).length ≤ 10 := by decide +kernel
    have e3 : ("missed" : Str).length ≤ 10 := by decide +kernel
    have big : ∀ n : Nat, n ≤ 4010 → n ≤ sizeLine := fun n h => by rw [sizeLine_eq]; omega
    refine ⟨_, rfl, x, CT, dx, fs, _, rfl, hx, TT.cl, TT.nP, l1, _, rfl, t, _, _, _, rfl, rfl, SqT.of hT, rfl, rfl, _, rfl, if_f (by simp) ?_⟩
    refine ⟨_, rfl, x, CT, dx, fs, _, rfl, hx, TT.cl, TT.nH, l2, _, rfl, t, _, _, _, rfl, rfl, SqT.of hT, rfl, rfl, _, rfl, if_f (by simp) ?_⟩
    refine ⟨_, rfl, x, CT, dx, fs, _, rfl, hx, TT.cl, TT.nR, l3, _, rfl, t, _, _, _, rfl, rfl, SqT.of hT, rfl, r, r, rfl, _, rfl, if_f (by simp) ?_⟩
    refine ⟨fun σ' H' => σ' = [some (.ref x), some (.ref t), some (.str (if r then ("reached" : Str) else ("missed" : Str)))] ∧ H' = H, ?_, ?_⟩
    · refine ⟨_, rfl, t, _, _, _, rfl, rfl, SqT.of hT, rfl, r, rfl, ?_⟩
      cases r with
      | true => exact if_t rfl ⟨rfl, rfl⟩
      | false => exact if_f rfl ⟨rfl, rfl⟩
    · rintro σ' H' ⟨rfl, rfl⟩
      have zw : (if r then ("reached" : Str) else ("missed" : Str)).length ≤ 10 := by cases r <;> assumption
      refine ⟨_, rfl, x, dx, fs, rfl, hx, x, p, h, r, rfl, hX, sp, sh, _, rfl, ?_⟩
      refine ⟨_, rfl, t, _, _, _, rfl, rfl, SqT.of hT, rfl, p, rfl, hp', _, _, rfl, rfl, big _ (by omega), ?_⟩
      refine ⟨_, rfl, t, _, _, _, rfl, rfl, SqT.of hT, rfl, h, rfl, hh', _, _, rfl, rfl, big _ (by rw [Str.length_append]; omega), _, _, rfl, rfl, big _ (by rw [Str.length_append, Str.length_append]; omega), ?_⟩
      refine ⟨_, rfl, _, _, rfl, rfl, big _ (by rw [Str.length_append, Str.length_append, Str.length_append]; omega), rfl, ?_⟩
      have e : triTxt p h r = Str.ofString (toString p) ++ (" " : Str) ++ Str.ofString (toString h) ++ (" " : Str) ++ (if r = true then ("reached" : Str) else ("missed" : Str)) := tri_txt
      rw [e, decide_eq_true rfl]
      exact k
theorem scAgL : FnScope ["_law_trial", "_law_heights", "e"] ["_law_trial", "_law_heights"] (defScope sAgL) := ⟨rfl, rfl, rfl, by decide +kernel, rfl, by decide +kernel, by decide +kernel⟩
theorem ok_agL {f g : Addr} {fd : FuncData} (F : Fun K "_law_agrees" "_law_agrees" sAgL f fd) (R : ErrOk P w K mg base "NoPlace" CP "place" okInt) (GA : FnR P w K mg base (L2.CX P w) 4 g (spAgr K CP CT)) (MA : Meth K CT "agrees" g) (cl : Cls K CT) : FnOk P w K mg base CX0 5 f fd ["_law_trial", "_law_heights"] (spAgL K CT) := by
  refine F.ok scAgL (fun vs H Q E h => ?_) (fun cdv A outer s H vs Q E hr h => ?_)
  · obtain ⟨x, l, p, h, r, xs, rfl, _⟩ := h
    rfl
  · obtain ⟨x, l, p, h, r, xs, rfl, hX, hS, sp, h1, h2⟩ := h
    refine ⟨_, (pss_one (ps_try_as (i := 2) (tb := fun W => tRet (Own.tMethS CT "agrees" (spAgr K CP CT) (WE W) (tVar 0) (tCons (tVar 1) tNil))) (ts := fun a cls d => tRet (tTup (tCons (tC (.str "NoPlace")) (tCons (tXf a cls d CP "place" (tVar 2)) tNil))))
        (Wout := fun _ _ _ _ => False) rfl rfl scAgL.nd rfl rfl ⟨rfl, by decide, Or.inl R.g⟩ takes0
        (fun W pn xe tk _ => pss_one (ps_ret (by exact (Own.pe_methW (E := WE W) (pv 0) cl MA GA hr (fun σ => passAt tk σ) (by exact (pa_cons (pv 1) pa_nil))))))
        (fun a oe cls d pn hz hf => pss_one (ps_ret (pe_tup (pa_cons pe_str (by exact (pa_cons (pe_xf R.xf R.no hz hf (pv 2)) pa_nil)))))))), ?_⟩
    obtain ⟨dx, fs, hx, l1, l2, l3, l4⟩ := id hX
    refine ⟨_, rfl, x, dx, fs, rfl, hx, l4, _, rfl, x, l, p, h, r, xs, rfl, hX, hS, sp, fun b hb => ?_, fun hn H' d S hd => ⟨true, R.te, fun _ q ha => ?_, fun z => Bool.noConfusion z⟩⟩
    · exact h1 b hb
    · refine ⟨_, rfl, rfl, rfl, d, _, _, rfl, upd_same, rfl, by show 2 ≤ sizeLine; decide, fun t ht => ?_⟩
      exact h2 hn t _ (fun c o e => same_new ht _ _ (same_new hd _ _ (S _ _ e))) upd_same
theorem scLea : FnScope ["_law_place", "_law_length", "_law_stand", "_law_reached", "_law_trial", "e"] ["_law_place", "_law_length", "_law_stand", "_law_reached"] (defScope sLea) := ⟨rfl, rfl, rfl, by decide +kernel, rfl, by decide +kernel, by decide +kernel⟩
theorem ok_lea {f fL g p0 : Addr} {fd : FuncData} {mc : Value} (F : Fun K "_law_leant" "_law_leant" sLea f fd) (R : ErrOk P w K mg base "BadNumber" CE "value" okInt) (MKL : Mk K CL fL) (GIL : FnR P w K mg base (L2.CX P w) 5 fL (spInit1 CE CL))
    (CR : ClX.CRead K CT mc) (CM : ClX.CMet K CT mc "leant" p0 g) (GLn : FnR P w K mg base (L2.CX P w) 7 g (spTln CE CL CT)) (T : LTxt mg CL CT fT fSy) : FnOk P w K mg base CX0 8 f fd ["_law_place", "_law_length", "_law_stand", "_law_reached"] spLea := by
  refine F.ok scLea (fun vs H Q E h => ?_) (fun cdv A outer s H vs Q E hr h => ?_)
  · obtain ⟨p, L, f, r, rfl, _⟩ := h
    rfl
  · obtain ⟨p, L, f, r, rfl, sL, sf, pL, hf, k⟩ := h
    have hr7 : Room 7 _ := hr
    have hr6 : Room 6 _ := hr.mono (by decide)
    refine ⟨_, (pss_cons (ps_try_as (i := 5) (tb := fun W => tAsg (Own.tCMethS CT (spTln CE CL CT) (WE W) (tC (.ref CT)) (tCons (tVar 0) (tCons (Own.tMakeS CL (spInit1 CE CL) (WE W) (tCons (tVar 1) tNil)) (tCons (tVar 2) (tCons (tVar 3) tNil))))) (gName 4)) (ts := fun a cls d => tRet (tTup (tCons (tC (.str "BadNumber")) (tCons (tXf a cls d CE "value" (tVar 5)) tNil))))
        (Wout := fun _ _ _ _ => False) rfl rfl scLea.nd rfl rfl ⟨rfl, by decide, Or.inl R.g⟩ takes0
        (fun W pn xe tk _ => pss_one (ps_set (i := 4) scLea.nd rfl (Or.inl rfl) (by exact (Own.pe_cmethS (E := WE W) (pe_glob (v := .ref CT) rfl T.tri rfl) CR CM GLn hr7 (fun σ => passAt tk σ) (by exact (pa_cons (pv 0) (pa_cons (Own.pe_makeS (E := WE W) MKL GIL hr6 rfl T.lad (fun σ => passAt tk σ) (by exact (pa_cons (pv 1) pa_nil))) (pa_cons (pv 2) (pa_cons (pv 3) pa_nil)))))))))
        (fun a oe cls d pn hz hf => pss_one (ps_ret (pe_tup (pa_cons pe_str (by exact (pa_cons (pe_xf R.xf R.no hz hf (pv 5)) pa_nil)))))))
      (pss_one (ps_ret (pv 4)))), ?_⟩
    refine ⟨rfl, _, rfl, ⟨_, rfl, mk_lad1 (Nat.lt_of_lt_of_le sL (Nat.pow_le_pow_right (by decide) (by decide))) (fun c => absurd c (by omega)) fun _ x H2 hx S hl => ?_⟩⟩
    refine ⟨_, rfl, _, rfl, p, L, 1, f, x, r, rfl, hl, sL, sf, pL, fun _ H' d S' hd => ⟨true, R.te, fun _ q ha => ?_, fun z => Bool.noConfusion z⟩, fun c => absurd c (by omega)⟩
    refine ⟨_, rfl, rfl, rfl, d, _, _, rfl, upd_same, rfl, by show 2 ≤ sizeLine; decide, fun t ht => ?_⟩
    exact k t _ (fun c o e => same_new ht _ _ (same_new hd _ _ (S' _ _ (S _ _ e)))) upd_same
theorem scRch : FnScope ["_law_told", "_law_length", "_law_stand"] ["_law_told", "_law_length", "_law_stand"] (defScope sRch) := ⟨rfl, rfl, rfl, by decide +kernel, rfl, by decide +kernel, by decide +kernel⟩
theorem ok_rch {f : Addr} {fd : FuncData} (F : Fun K "_law_reaches" "_law_reaches" sRch f fd) : FnOk P w K mg base CX0 1 f fd ["_law_told", "_law_length", "_law_stand"] spRch := by
  refine F.ok scRch (fun vs H Q E h => ?_) (fun cdv A outer s H vs Q E hr2 h => ?_)
  · obtain ⟨r, L, f, rfl, _⟩ := h
    rfl
  · obtain ⟨r, L, f, rfl, sL, sf, pL, pf, R, k⟩ := h
    refine ⟨_, (pss_cons (ps_if (pt_cmpR op_gt (pv 2) (pv 1) (nomark _)) (pss_one (ps_ret (pe_cmpR op_eq (pv 0) (pe_un un_neg pe_int) (nomark _)))) pss_nil)
      (pss_cons (ps_if (PW.pt (pw_or (pt_cmpR op_lt (pv 0) pe_int (nomark _)) (pw_or1 (pt_cmpR op_gt (pe_op op_add (pe_op op_mulW (pv 0) (pv 0)) (pe_op op_mulW (pv 2) (pv 2))) (pe_op op_mulW (pv 1) (pv 1)) (nomark _))))) (pss_one (ps_ret pe_bl)) pss_nil)
      (pss_one (ps_ret (pe_cmpR op_gt (pe_op op_add (pe_op op_mulW (pe_op op_add (pv 0) pe_int) (pe_op op_add (pv 0) pe_int)) (pe_op op_mulW (pv 2) (pv 2))) (pe_op op_mulW (pv 1) (pv 1)) (nomark _)))))), ?_⟩
    obtain ⟨r1, r2⟩ := R
    refine ⟨_, rfl, _, rfl, _, _, rfl, rfl, _, rfl, ?_⟩
    by_cases c : L < f
    · refine if_t (decide_eq_true c) ?_
      have e := r1 c
      subst e
      refine ⟨_, rfl, _, rfl, rfl, ?_⟩
      exact k
    · refine if_f (decide_eq_false c) ?_
      obtain ⟨q0, q1, q2⟩ := r2 (by omega)
      have h5 : 0 ≤ f * f := Int.mul_nonneg pf pf
      have hrL : r ≤ L := by
        refine Int.not_lt.mp fun z => ?_
        have := Int.mul_lt_mul' (Int.le_of_lt z) z pL (by omega : 0 < r)
        omega
      have sr : r.natAbs < 2 ^ 200 := Nat.lt_of_le_of_lt (show r.natAbs ≤ L.natAbs by omega) sL
      have sr1 : (r + 1).natAbs < 2 ^ 300 := by
        have e : (2 : Nat) ^ 200 * 2 ≤ 2 ^ 300 := by decide +kernel
        generalize (2 : Nat) ^ 300 = m at e ⊢
        generalize (2 : Nat) ^ 200 = n at e sr
        omega
      refine ⟨_, rfl, _, _, rfl, rfl, _, rfl, if_f (decide_eq_false (by omega)) ?_⟩
      refine ⟨_, rfl, _, rfl, _, _, rfl, rfl, Sz.mul (Sz.w sr) (Sz.w sr), _, rfl, _, rfl, _, _, rfl, rfl, Sz.mul sf.w sf.w, _, _, rfl, rfl, _, rfl, _, rfl, _, _, rfl, rfl, Sz.mul sL.w sL.w, _, _, rfl, rfl, _, rfl, if_f (decide_eq_false (by omega)) ?_⟩
      refine ⟨_, rfl, _, _, rfl, rfl, _, rfl, _, _, rfl, rfl, _, _, rfl, rfl, Sz.mul sr1 sr1, _, rfl, _, rfl, _, _, rfl, rfl, Sz.mul sf.w sf.w, _, _, rfl, rfl, _, rfl, _, rfl, _, _, rfl, rfl, Sz.mul sL.w sL.w, _, _, rfl, rfl, ?_⟩
      have e : decide (L * L < (r + 1) * (r + 1) + f * f) = true := decide_eq_true (by omega)
      show Q (V.bl (decide (L * L < (r + 1) * (r + 1) + f * f))) H
      rw [e]
      exact k
end
end Law

namespace Law
open PySem PySem.Spec PyProof.Rows L2 Sup
abbrev sLng : Stmt := top 21
abbrev sLaw : Stmt := top 22
theorem shaped_ei {y : Str} (n : Int) (hy : PyData.canLay0 (.str y) = true) : SeqAt.shaped (.tuple [.str y, .int n]) = true := by
  have h1 : PyData.canLay0 (.tuple [.str y, .int n]) = true := by
    simp only [PyData.canLay0, PyData.canLayAll0] at hy ⊢
    simp [hy]
  have h2 : PyData.depth (.tuple [.str y, .int n]) ≤ 64 := by
    simp [PyData.depth, PyData.depthAll]
  unfold SeqAt.shaped
  rw [h1, decide_eq_true h2]
  rfl
theorem shaped_row (p h : Int) (r : Bool) : SeqAt.shaped (.tuple [.int p, .int h, .bool r]) = true := by
  have h1 : PyData.canLay0 (.tuple [.int p, .int h, .bool r]) = true := by
    simp [PyData.canLay0, PyData.canLayAll0]
  have h2 : PyData.depth (.tuple [.int p, .int h, .bool r]) ≤ 64 := by
    simp [PyData.depth, PyData.depthAll]
  unfold SeqAt.shaped
  rw [h1, decide_eq_true h2]
  rfl
theorem dp_row {K : PySem.W.Frag} {H : Hp} {t : Addr} {p h : Int} {r : Bool} (e : H t = some (.tup (rowV p h r))) : Dp K H (.ref t) (.tuple [.int p, .int h, .bool r]) := .tup (SqT.of e) (.cons (.int _) (.cons (.int _) (.cons (.bl _) .nil)))
theorem eqv_row (p h p' h' : Int) (r r' : Bool) : PyData.eqv (.tuple [.int p, .int h, .bool r]) (.tuple [.int p', .int h', .bool r']) = (decide (p = p') && (decide (h = h') && decide (r = r'))) := by
  simp only [PyData.eqv, PyData.eqvAll]
  cases r <;> cases r' <;> simp <;> first | rfl | (by_cases c1 : p = p' <;> by_cases c2 : h = h' <;> simp [c1, c2])
def spLng : Sp := fun vs H Q _ => ∃ (t : Addr) (p h L f : Int) (r : Bool), vs = [.ref t, .int L, .int f] ∧ H t = some (.tup (rowV p h r)) ∧ Sz L ∧ Sz f ∧ Sz (-1 - f) ∧ 0 ≤ L ∧ 0 ≤ f ∧ ∀ H', Same H H' → Q (.bl true) H'
structure GTxt (mg : Str → Option Value) (fRc fSy fLe CL CT : Addr) : Prop where
  rch : mg "_law_reaches" = some (.ref fRc)
  says : mg "_law_says" = some (.ref fSy)
  lea : mg "_law_leant" = some (.ref fLe)
  lad : mg "Ladder" = some (.ref CL)
  tri : mg "Trial" = some (.ref CT)
section
variable {P : Program} {w : World} {K : PySem.W.Frag} {mg : Str → Option Value} {base : Heap} {CE CP CL CT fRc fSy fLe : Addr}
theorem scLng : FnScope ["_law_row_here", "_law_length", "_law_stand", "_law_leant_here"] ["_law_row_here", "_law_length", "_law_stand"] (defScope sLng) := ⟨rfl, rfl, rfl, by decide +kernel, rfl, by decide +kernel, by decide +kernel⟩
theorem ok_lng {f fL g p0 : Addr} {fd fdRc fdSy fdLe : FuncData} {mc : Value} (F : Fun K "_law_leaning" "_law_leaning" sLng f fd)
    (GSy : FnOk P w K mg base CX0 1 fSy fdSy ["_law_told", "_law_due"] spSays) (FSy : Fun K "_law_says" "_law_says" sSays fSy fdSy) (bSy : Binds K fdSy ["_law_told", "_law_due"] [])
    (GRc : FnOk P w K mg base CX0 1 fRc fdRc ["_law_told", "_law_length", "_law_stand"] spRch) (FRc : Fun K "_law_reaches" "_law_reaches" sRch fRc fdRc) (bRc : Binds K fdRc ["_law_told", "_law_length", "_law_stand"] [])
    (GLe : FnOk P w K mg base CX0 8 fLe fdLe ["_law_place", "_law_length", "_law_stand", "_law_reached"] spLea) (FLe : Fun K "_law_leant" "_law_leant" sLea fLe fdLe) (bLe : Binds K fdLe ["_law_place", "_law_length", "_law_stand", "_law_reached"] [])
    (MKL : Mk K CL fL) (GIL : FnR P w K mg base (L2.CX P w) 5 fL (spInit1 CE CL))
    (CR : ClX.CRead K CT mc) (CM : ClX.CMet K CT mc "leant" p0 g) (GLn : FnR P w K mg base (L2.CX P w) 7 g (spTln CE CL CT)) (TT : TriTxt K mg CT) (T : GTxt mg fRc fSy fLe CL CT) : FnOk P w K mg base CX0 9 f fd ["_law_row_here", "_law_length", "_law_stand"] spLng := by
  refine F.ok scLng (fun vs H Q E h => ?_) (fun cdv A outer s H vs Q E hr h => ?_)
  · obtain ⟨t, p, h, L, f, r, rfl, _⟩ := h
    rfl
  · obtain ⟨t, p, h, L, f, r, rfl, ht, sL, sf, sf1, pL, pf, k⟩ := h
    have hr7 : Room 7 _ := hr.mono (by decide)
    have hr6 : Room 6 _ := hr.mono (by decide)
    have hr1 : Room 1 _ := hr.mono (by decide)
    refine ⟨_, (pss_cons (ps_set (i := 3) scLng.nd rfl (Or.inl rfl) (Own.pe_cmethS (E := fun _ => E0) (pe_glob (v := .ref CT) rfl T.tri rfl) CR CM GLn hr7 (passS passL) (by exact (pa_cons (pe_ix ix_tup (pv 0) pe_int (fun _ _ => rfl)) (pa_cons (Own.pe_makeS (E := fun _ => E0) MKL GIL hr6 rfl T.lad (passS passL) (by exact (pa_cons (pv 1) pa_nil))) (pa_cons (pv 2) (pa_cons (pe_ix ix_tup (pv 0) pe_int (fun _ _ => rfl)) pa_nil)))))))
      (pss_cons (ps_if (pt_not (pt_val (pe_call GRc hr1 rfl T.rch FRc.kp bRc .nil pass0 (pa_cons (pe_fld (pv 3) rfl) (pa_cons (pv 1) (pa_cons (pv 2) pa_nil)))))) (pss_one (ps_ret pe_bl)) pss_nil)
      (pss_cons (ps_if (PW.pt (pw_or (pt_cmpR op_ne (pe_fld (pv 3) rfl) (pe_ix ix_tup (pv 0) pe_int (fun _ _ => rfl)) (nomark _)) (pw_or1 (pt_not (pt_val (pe_call GSy hr1 rfl T.says FSy.kp bSy .nil pass0 (pa_cons (pe_fld (pv 3) rfl) (pa_cons (pe_ix ix_tup (pv 0) pe_int (fun _ _ => rfl)) pa_nil)))))))) (pss_one (ps_ret pe_bl)) pss_nil)
      (pss_one (ps_ret (pe_cmpR (op_eqD hr.units) (pe_call GLe hr rfl T.lea FLe.kp bLe .nil pass0 (pa_cons (pe_ix ix_tup (pv 0) pe_int (fun _ _ => rfl)) (pa_cons (pv 1) (pa_cons (pe_op op_sub (pe_un un_neg pe_int) (pv 2)) (pa_cons (pe_ix ix_tup (pv 0) pe_int (fun _ _ => rfl)) pa_nil))))) (pe_tup (pa_cons pe_str (pa_cons (pe_op op_sub (pe_un un_neg pe_int) (pv 2)) pa_nil))) (nomark _))))))), ?_⟩
    refine ⟨rfl, _, rfl, t, _, _, _, rfl, rfl, SqT.of ht, rfl, ⟨_, rfl, mk_lad1 (Nat.lt_of_lt_of_le sL (Nat.pow_le_pow_right (by decide) (by decide))) (fun c => absurd c (by omega)) fun _ x H2 hx S hl => ?_⟩⟩
    refine ⟨_, rfl, _, rfl, t, _, _, _, rfl, rfl, SqT.of (S _ _ ht), rfl, p, L, 1, f, x, r, rfl, hl, sL, sf, pL, fun c => absurd c (by omega), fun _ m R y H3 hy S2 hY => ?_⟩
    obtain ⟨dy, gs, hy1, m1, m2, m3, m4⟩ := id hY
    have ht3 := S2 _ _ (S _ _ ht)
    refine ⟨_, rfl, y, CT, dy, gs, _, rfl, hy1, TT.cl, TT.nH, m2, _, rfl, _, rfl, m, L, f, rfl, sL, sf, pL, pf, R, true, rfl, if_f rfl ?_⟩
    refine ⟨_, rfl, y, CT, dy, gs, _, rfl, hy1, TT.cl, TT.nP, m1, _, rfl, t, _, _, _, rfl, rfl, SqT.of ht3, rfl, rfl, _, rfl, if_f (by simp) ?_⟩
    refine ⟨_, rfl, y, CT, dy, gs, _, rfl, hy1, TT.cl, TT.nR, m3, _, rfl, t, _, _, _, rfl, rfl, SqT.of ht3, rfl, r, r, rfl, _, rfl, if_f (by simp) ?_⟩
    refine ⟨_, rfl, t, _, _, _, rfl, rfl, SqT.of ht3, rfl, _, rfl, _, rfl, _, rfl, _, _, rfl, rfl, ?_⟩
    refine ⟨_, rfl, t, _, _, _, rfl, rfl, SqT.of ht3, rfl, p, L, -1 - f, r, rfl, sL, sf1, pL, by omega, fun t2 H4 S4 ht2 => ?_⟩
    refine ⟨_, rfl, _, rfl, _, _, rfl, rfl, by show 2 ≤ sizeLine; decide, fun t3 ht3' => ?_⟩
    have z := shaped_ei (y := "BadNumber") (-1 - f) (by decide +kernel)
    refine ⟨_, _, .tup (SqT.of (same_new ht3' _ _ ht2)) (.cons (.str _) (.cons (.int _) .nil)), .tup (SqT.of upd_same) (.cons (.str _) (.cons (.int _) .nil)), z, z, ?_⟩
    rw [eqv_rfl z]
    refine k _ fun c o e => same_new ht3' _ _ (S4 _ _ (S2 _ _ (S _ _ e)))
end
end Law

namespace Law
open PySem PySem.Spec PyProof.Rows L2 Sup
def spLaw (K : PySem.W.Frag) : Sp := fun vs H Q _ => ∃ (a : Addr) (ns : List Int), vs = [.ref a] ∧ SqL K H a (ns.map V.int) ∧ ns.length ≤ 63 ∧ ∀ H', Q (.bl true) H'
theorem Box.neNs {H : Hp} {b l c : Addr} {xs : List Int} (B : Box H b l) (h : H c = some (.lst (xs.map V.int))) : c ≠ b := fun z => by
  obtain ⟨ns, i, q, s, h1, _⟩ := B
  rw [z, h1] at h
  have e := HO.lst.inj (Option.some.inj h)
  cases xs with
  | nil => cases e
  | cons n ns => cases e
/-- the two rows, the two trials and the box -/
structure Wd (CT b l : Addr) (H : Hp) (t1 t2 xa xb : Addr) (p h : Int) (r : Bool) (p' h' : Int) (r' : Bool) : Prop where
  e1 : H t1 = some (.tup (rowV p h r))
  e2 : H t2 = some (.tup (rowV p' h' r'))
  A : Tri CT H xa p h r
  A2 : Tri CT H xb p' h' r'
  B : Box H b l
section
variable {CT b l : Addr} {H H' : Hp} {t1 t2 xa xb : Addr} {p h : Int} {r : Bool} {p' h' : Int} {r' : Bool}
theorem Wd.same (W : Wd CT b l H t1 t2 xa xb p h r p' h' r') (s : Same H H') : Wd CT b l H' t1 t2 xa xb p h r p' h' r' := ⟨s _ _ W.e1, s _ _ W.e2, W.A.same s, W.A2.same s, W.B.same s⟩
theorem Wd.draw (W : Wd CT b l H t1 t2 xa xb p h r p' h' r') (B' : Box H' b l) (s : SameB b H H') : Wd CT b l H' t1 t2 xa xb p h r p' h' r' := by
  exact ⟨s _ _ (W.B.neT W.e1) W.e1, s _ _ (W.B.neT W.e2) W.e2, W.A.sameB W.B s, W.A2.sameB W.B s, B'⟩
end
theorem int_ok (n : Int) : PyData.canLay0 (.int n) = true := by simp only [PyData.canLay0]
theorem dp_ints {K : PySem.W.Frag} {H : Hp} : ∀ ns : List Int, DpAll K H (ns.map V.int) (ns.map PyData.int)
  | [] => .nil
  | _ :: ns => .cons (.int _) (dp_ints ns)
theorem shaped_int (n : Int) : SeqAt.shaped (.int n) = true := by
  unfold SeqAt.shaped
  rw [int_ok n]
  simp [PyData.depth]
theorem ok_ints : ∀ ns : List Int, PyData.canLayAll0 (ns.map PyData.int) = true
  | [] => by simp only [List.map_nil, PyData.canLayAll0]
  | n :: ns => by
    rw [List.map_cons]
    simp only [PyData.canLayAll0]
    rw [Bool.and_eq_true]
    exact ⟨int_ok n, ok_ints ns⟩
theorem deep_ints : ∀ ns : List Int, PyData.depthAll (ns.map PyData.int) = 0
  | [] => by simp [PyData.depthAll]
  | n :: ns => by
    rw [List.map_cons]
    simp [PyData.depthAll, PyData.depth, deep_ints ns]
theorem shaped_ints (ns : List Int) : SeqAt.shaped (.list (ns.map PyData.int)) = true := by
  unfold SeqAt.shaped
  have e : PyData.canLay0 (.list (ns.map PyData.int)) = true := by
    simp only [PyData.canLay0]
    exact ok_ints ns
  rw [e]
  simp [PyData.depth, deep_ints]
/-- what agrees told -/
def Tl (H : Hp) (v : V) (o : Option Bool) (p : Int) : Prop := match o with
  | some b => v = .bl b
  | none => ∃ t, v = .ref t ∧ H t = some (.tup [.str "NoPlace", .int p])
theorem Tl.same {H H' : Hp} {v : V} {o : Option Bool} {p : Int} (t : Tl H v o p) (s : Same H H') : Tl H' v o p := by
  cases o with
  | some b => exact t
  | none =>
    obtain ⟨u, h1, h2⟩ := t
    exact ⟨u, h1, s _ _ h2⟩
theorem agr_in {xs : List Int} {p h : Int} {r : Bool} {z : Int} (c : 0 ≤ p) (hz : xs[p.toNat]? = some z) : agr xs p h r = some (if r then decide (z ≤ h) else decide (h < z)) := by
  unfold agr
  rw [if_pos c, hz]
  rfl
theorem agr_out {xs : List Int} {p h : Int} {r : Bool} (c : ¬ (0 ≤ p ∧ p < xs.length)) : agr xs p h r = none := by
  unfold agr
  by_cases c0 : 0 ≤ p
  · rw [if_pos c0, List.getElem?_eq_none (by omega)]
    rfl
  · rw [if_neg c0]
structure MTxt (mg : Str → Option Value) (fB fT fRo fSy fWh fAg fLg CT : Addr) : Prop where
  box : mg "_law_box" = some (.ref fB)
  take : mg "_law_take" = some (.ref fT)
  row : mg "_law_row" = some (.ref fRo)
  says : mg "_law_says" = some (.ref fSy)
  who : mg "_law_whole" = some (.ref fWh)
  agr : mg "_law_agrees" = some (.ref fAg)
  lng : mg "_law_leaning" = some (.ref fLg)
  tri : mg "Trial" = some (.ref CT)
  b_range : mg "range" = none
  b_list : mg "list" = none
  b_len : mg "len" = none
section
variable {P : Program} {w : World} {K : PySem.W.Frag} {mg : Str → Option Value} {base : Heap} {CE CP CL CT : Addr}
theorem scLaw : FnScope ["_law_script", "_law_box_here", "_law_row_here", "_law_other", "_law_way", "_law_a", "_law_b", "_law_heights", "_law_k", "_law_passed", "_law_told", "_law_turned", "_law_due", "_law_below"] ["_law_script"] (defScope sLaw) := ⟨rfl, rfl, rfl, by decide +kernel, rfl, by decide +kernel, by decide +kernel⟩
set_option maxHeartbeats 0 in
theorem ok_law {f fB fT fRo fSy fWh fAg fLg fI fV fE : Addr} {fd fdB fdT fdRo fdSy fdWh fdAg fdLg : FuncData} (F : Fun K "law" "law" sLaw f fd) (T : MTxt mg fB fT fRo fSy fWh fAg fLg CT)
    (GB : FnOk P w K mg base CX0 1 fB fdB ["_law_script"] (spBox K)) (FB : Fun K "_law_box" "_law_box" sBox fB fdB) (bB : Binds K fdB ["_law_script"] [])
    (GT : FnOk P w K mg base CX0 1 fT fdT ["_law_box_here", "_law_size"] spTake) (FT : Fun K "_law_take" "_law_take" sTake fT fdT) (bT : Binds K fdT ["_law_box_here", "_law_size"] [])
    (GRo : FnOk P w K mg base CX0 2 fRo fdRo ["_law_box_here"] spRow) (FRo : Fun K "_law_row" "_law_row" sRow fRo fdRo) (bRo : Binds K fdRo ["_law_box_here"] [])
    (GSy : FnOk P w K mg base CX0 1 fSy fdSy ["_law_told", "_law_due"] spSays) (FSy : Fun K "_law_says" "_law_says" sSays fSy fdSy) (bSy : Binds K fdSy ["_law_told", "_law_due"] [])
    (GWh : FnOk P w K mg base CX0 4 fWh fdWh ["_law_trial", "_law_row_here"] (spWho CT)) (FWh : Fun K "_law_whole" "_law_whole" sWho fWh fdWh) (bWh : Binds K fdWh ["_law_trial", "_law_row_here"] [])
    (GAg : FnOk P w K mg base CX0 5 fAg fdAg ["_law_trial", "_law_heights"] (spAgL K CT)) (FAg : Fun K "_law_agrees" "_law_agrees" sAgL fAg fdAg) (bAg : Binds K fdAg ["_law_trial", "_law_heights"] [])
    (GLg : FnOk P w K mg base CX0 9 fLg fdLg ["_law_row_here", "_law_length", "_law_stand"] spLng) (FLg : Fun K "_law_leaning" "_law_leaning" sLng fLg fdLg) (bLg : Binds K fdLg ["_law_row_here", "_law_length", "_law_stand"] [])
    (MK : Mk K CT fI) (GI : FnR P w K mg base CX0 1 fI (spTini CT))
    (GE : FnR P w K mg base CX0 1 fE (spTeq CT)) (hsE : PySem.W.findIn K (.ref CT) "__eq__" = some (some (.ref fE))) (hfE : PySem.W.isFn K (.ref fE) = true) (hnE : PySem.W.findIn K (.ref CT) "__ne__" = some (some (.builtin "object.__ne__"))) (hmE : PySem.W.mroIn K CT (.type "object") = some true) (hsubE : PySem.W.subIn K (.type "tuple") (.ref CT) = some false)
    (GV : FnR P w K mg base CX0 3 fV (spTnv CT)) (hsV : PySem.W.findIn K (.ref CT) "__invert__" = some (some (.ref fV))) (hfV : PySem.W.isFn K (.ref fV) = true) :
    FnOk P w K mg base CX0 10 f fd ["_law_script"] (spLaw K) := by
  refine F.ok scLaw (fun vs H Q E h => ?_) (fun cdv A outer s H vs Q E hr h => ?_)
  · obtain ⟨a, ns, rfl, _⟩ := h
    rfl
  · obtain ⟨a, ns, rfl, hS, h63, k⟩ := h
    have hr9 : Room 9 _ := hr
    have hr5 : Room 5 _ := hr.mono (by decide)
    have hr4 : Room 4 _ := hr.mono (by decide)
    have hr3 : Room 3 _ := hr.mono (by decide)
    have hr2 : Room 2 _ := hr.mono (by decide)
    have hr1 : Room 1 _ := hr.mono (by decide)
    have z10 : ∀ {x : Int}, x.natAbs ≤ 10 ^ 42 → x.natAbs < 2 ^ 1000 := fun {x} h1 => Nat.lt_of_le_of_lt h1 (by decide +kernel)
    refine ⟨_, (pss_cons (ps_set (i := 1) scLaw.nd rfl (Or.inr rfl) (pe_call GB hr1 rfl T.box FB.kp bB .nil pass0 (pa_cons (pv 0) pa_nil)))
      (pss_cons (ps_set (i := 2) scLaw.nd rfl (Or.inr rfl) (pe_call GRo hr2 rfl T.row FRo.kp bRo .nil pass0 (pa_cons (pv 1) pa_nil)))
      (pss_cons (ps_set (i := 3) scLaw.nd rfl (Or.inl rfl) (pe_call GRo hr2 rfl T.row FRo.kp bRo .nil pass0 (pa_cons (pv 1) pa_nil)))
      (pss_cons (ps_set (i := 4) scLaw.nd rfl (Or.inl rfl) (pe_call GT hr1 rfl T.take FT.kp bT .nil pass0 (pa_cons (pv 1) (pa_cons pe_int pa_nil))))
      (C8.pss_cut (ps_if (pt_cmpR op_lt (pv 4) pe_int (nomark _)) (pss_one (ps_set (i := 3) scLaw.nd rfl (Or.inl rfl) (pv 2))) pss_nil)
      (C8.pss_cut (ps_if (pt_cmpR op_eq (pv 4) pe_int (nomark _)) (pss_one (ps_set (i := 3) scLaw.nd rfl (Or.inl rfl) (pe_tup (pa_cons (pe_ix ix_tup (pv 2) pe_int (fun _ _ => rfl)) (pa_cons (pe_ix (r := rIxT K) ix_tup (pv 2) pe_int (fun _ _ => rfl)) (pa_cons (pe_not (pe_ix ix_tup (pv 2) pe_int (fun _ _ => rfl))) pa_nil)))))) pss_nil)
      (C8.pss_cut (ps_if (pt_cmpR op_eq (pv 4) pe_int (nomark _)) (pss_one (ps_set (i := 3) scLaw.nd rfl (Or.inl rfl) (pe_tup (pa_cons (pe_ix ix_tup (pv 2) pe_int (fun _ _ => rfl)) (pa_cons (pe_op op_add (pe_ix (r := rIxT K) ix_tup (pv 2) pe_int (fun _ _ => rfl)) pe_int) (pa_cons (pe_ix ix_tup (pv 2) pe_int (fun _ _ => rfl)) pa_nil)))))) pss_nil)
      (pss_cons (ps_set (i := 5) scLaw.nd rfl (Or.inl rfl) (Own.pe_makeS (E := fun _ => E0) MK GI hr2 rfl T.tri (passS pass0) (pa_cons (pe_ix ix_tup (pv 2) pe_int (fun _ _ => rfl)) (pa_cons (pe_ix (r := rIxT K) ix_tup (pv 2) pe_int (fun _ _ => rfl)) (pa_cons (pe_ix ix_tup (pv 2) pe_int (fun _ _ => rfl)) pa_nil)))))
      (pss_cons (ps_set (i := 6) scLaw.nd rfl (Or.inl rfl) (Own.pe_makeS (E := fun _ => E0) MK GI hr2 rfl T.tri (passS pass0) (pa_cons (pe_ix ix_tup (pv 3) pe_int (fun _ _ => rfl)) (pa_cons (pe_ix ix_tup (pv 3) pe_int (fun _ _ => rfl)) (pa_cons (pe_ix ix_tup (pv 3) pe_int (fun _ _ => rfl)) pa_nil)))))
      (pss_cons (ps_if (PW.pt (pw_or (pt_not (pt_val (pe_call GSy hr1 rfl T.says FSy.kp bSy .nil pass0 (pa_cons (pe_cmpR (Own.op_cmp (op := .Eq) (fun _ _ => rfl) GE hsE hfE hr1 pass0) (pv 5) (pv 6) (nomark _)) (pa_cons (pe_cmpR (op_eqD hr.units) (pv 2) (pv 3) (nomark _)) pa_nil))))) (pw_or (pt_not (pt_val (pe_call GSy hr1 rfl T.says FSy.kp bSy .nil pass0 (pa_cons (pe_cmpR (Own.op_ne GE hsE hnE hmE hfE hr2 pass0) (pv 5) (pv 6) (nomark _)) (pa_cons (pe_cmpR (op_neD hr.units) (pv 2) (pv 3) (nomark _)) pa_nil))))) (pw_or1 (pt_cmpR (Own.op_cmpT (op := .Eq) (fun _ _ => rfl) GE hsE hfE hsubE hr1 pass0) (pv 5) (pv 2) (nomark _)))))) (pss_one (ps_ret pe_bl)) pss_nil)
      (pss_cons (ps_if (PW.pt (pw_or (pt_not (pt_val (pe_call GWh hr4 rfl T.who FWh.kp bWh .nil pass0 (pa_cons (pe_un (Own.un_own GV hsV hfV hr3 pass0) (pv 5)) (pa_cons (pe_tup (pa_cons (pe_ix ix_tup (pv 2) pe_int (fun _ _ => rfl)) (pa_cons (pe_ix (r := rIxT K) ix_tup (pv 2) pe_int (fun _ _ => rfl)) (pa_cons (pe_not (pe_ix ix_tup (pv 2) pe_int (fun _ _ => rfl))) pa_nil)))) pa_nil))))) (pw_or1 (pt_not (pt_val (pe_call GSy hr1 rfl T.says FSy.kp bSy .nil pass0 (pa_cons (pe_cmpR (Own.op_cmp (op := .Eq) (fun _ _ => rfl) GE hsE hfE hr1 pass0) (pe_un (Own.un_own GV hsV hfV hr3 pass0) (pe_un (Own.un_own GV hsV hfV hr3 pass0) (pv 5))) (pv 5) (nomark _)) (pa_cons pe_bl pa_nil)))))))) (pss_one (ps_ret pe_bl)) pss_nil)
      (pss_cons (ps_setLc (i := 7) (own := [("_law_k", 8)]) (g := gName 8) (tt := tYes) (by rfl) scLaw.nd rfl rfl (sw_true rfl rfl rfl (by decide +kernel)) (pi_range1 (by rfl) T.b_range (pa_cons (pe_op op_add pe_int (pe_call GT hr1 rfl T.take FT.kp bT .nil pass0 (pa_cons (pv 1) (pa_cons pe_int pa_nil)))) pa_nil)) (blkOk_by (own := [("_law_k", 8)]) (N := ["_law_script", "_law_box_here", "_law_row_here", "_law_other", "_law_way", "_law_a", "_law_b", "_law_heights", "_law_k", "_law_passed", "_law_told", "_law_turned", "_law_due", "_law_below"]) (sc := defScope sLaw) (by decide +kernel)) (fun _ _ _ _ _ => pg_name (i := 8) scLaw.nd rfl (Or.inl rfl)) (fun _ _ _ _ _ => pts_nil) (fun _ _ _ _ _ => (pe_op op_sub (pe_op op_add (pe_ix (r := rIxT K) ix_tup (pv 2) pe_int (fun _ _ => rfl)) (pe_call GT hr1 rfl T.take FT.kp bT .nil pass0 (pa_cons (pv 1) (pa_cons pe_int pa_nil)))) pe_int)))
      (pss_cons (ps_set (i := 9) scLaw.nd rfl (Or.inl rfl) (pe_callTy call_list_of (by rfl) T.b_list (by decide +kernel) (pa_cons (pv 7) pa_nil)))
      (C8.pss_cut (ps_set (i := 10) scLaw.nd rfl (Or.inl rfl) (pe_call GAg hr5 rfl T.agr FAg.kp bAg .nil pass0 (pa_cons (pv 5) (pa_cons (pv 9) pa_nil))))
      (C8.pss_cut (ps_set (i := 11) scLaw.nd rfl (Or.inl rfl) (pe_call GAg hr5 rfl T.agr FAg.kp bAg .nil pass0 (pa_cons (pe_un (Own.un_own GV hsV hfV hr3 pass0) (pv 5)) (pa_cons (pv 9) pa_nil))))
      (C8.pss_cut (ps_if (pt_cmpR op_lt (pe_ix ix_tup (pv 2) pe_int (fun _ _ => rfl)) (pe_callB call_len_seq (by rfl) T.b_len PySem.boot_len (pa_cons (pv 7) pa_nil)) (nomark _)) (pss_cons (ps_set (i := 12) scLaw.nd rfl (Or.inl rfl) (pe_cmpR op_eq (pe_cmpR op_le (pe_ix ix_list (pv 7) (pe_ix ix_tup (pv 2) pe_int (fun _ _ => rfl)) (fun _ _ => rfl)) (pe_ix (r := rIxT K) ix_tup (pv 2) pe_int (fun _ _ => rfl)) (nomark _)) (pe_ix ix_tup (pv 2) pe_int (fun _ _ => rfl)) (nomark _)))
      (pss_one (ps_if (PW.pt (pw_or (pt_not (pt_val (pe_call GSy hr1 rfl T.says FSy.kp bSy .nil pass0 (pa_cons (pv 10) (pa_cons (pv 12) pa_nil))))) (pw_or1 (pt_not (pt_val (pe_call GSy hr1 rfl T.says FSy.kp bSy .nil pass0 (pa_cons (pv 11) (pa_cons (pe_not (pv 12)) pa_nil)))))))) (pss_one (ps_ret pe_bl)) pss_nil))) (pss_one (ps_if (PW.pt (pw_or (pt_cmpR (op_neD hr.units) (pv 10) (pe_tup (pa_cons pe_str (pa_cons (pe_ix ix_tup (pv 2) pe_int (fun _ _ => rfl)) pa_nil))) (nomark _)) (pw_or1 (pt_cmpR (op_neD hr.units) (pv 11) (pe_tup (pa_cons pe_str (pa_cons (pe_ix ix_tup (pv 2) pe_int (fun _ _ => rfl)) pa_nil))) (nomark _))))) (pss_one (ps_ret pe_bl)) pss_nil)))
      (pss_cons (ps_set (i := 13) scLaw.nd rfl (Or.inl rfl) (pe_op op_sub (pe_un un_neg pe_int) (pe_call GT hr1 rfl T.take FT.kp bT .nil pass0 (pa_cons (pv 1) (pa_cons (pe_callB call_len_seq (by rfl) T.b_len PySem.boot_len (pa_cons (pv 7) pa_nil)) pa_nil)))))
      (pss_cons (ps_if (PW.pt (pw_or (pt_cmpR (op_neD hr.units) (pe_call GAg hr5 rfl T.agr FAg.kp bAg .nil pass0 (pa_cons (Own.pe_makeS (E := fun _ => E0) MK GI hr2 rfl T.tri (passS pass0) (pa_cons (pv 13) (pa_cons (pe_ix (r := rIxT K) ix_tup (pv 2) pe_int (fun _ _ => rfl)) (pa_cons pe_bl pa_nil)))) (pa_cons (pv 9) pa_nil))) (pe_tup (pa_cons pe_str (pa_cons (pv 13) pa_nil))) (nomark _)) (pw_or1 (pt_cmpR (op_neD hr.units) (pv 9) (pv 7) (nomark _))))) (pss_one (ps_ret pe_bl)) pss_nil)
      (pss_cons (ps_if (pt_not (pt_val (pe_call GLg hr9 rfl T.lng FLg.kp bLg .nil pass0 (pa_cons (pv 2) (pa_cons (pe_call GT hr1 rfl T.take FT.kp bT .nil pass0 (pa_cons (pv 1) (pa_cons (pe_op op_pow pe_int pe_int) pa_nil))) (pa_cons (pe_call GT hr1 rfl T.take FT.kp bT .nil pass0 (pa_cons (pv 1) (pa_cons (pe_ix ix_list (pe_lst (pa_cons pe_int (pa_cons (pe_op op_pow pe_int pe_int) pa_nil))) (pe_call GT hr1 rfl T.take FT.kp bT .nil pass0 (pa_cons (pv 1) (pa_cons pe_int pa_nil))) (fun _ _ => rfl)) pa_nil))) pa_nil)))))) (pss_one (ps_ret pe_bl)) pss_nil)
      (pss_one (ps_ret (pe_and (pe_call GWh hr4 rfl T.who FWh.kp bWh .nil pass0 (pa_cons (pv 5) (pa_cons (pv 2) pa_nil))) (pe_one (pe_call GWh hr4 rfl T.who FWh.kp bWh .nil pass0 (pa_cons (pv 6) (pa_cons (pv 3) pa_nil)))))))))))))))))))))))))), ?_⟩
    refine ⟨_, rfl, a, ns, rfl, hS, h63, fun b l H1 B1 nb nl s1 => ?_⟩
    refine ⟨_, rfl, b, l, rfl, B1, fun p h r t1 H2 a0 a1 a2 a3 e1 B2 s2 => ?_⟩
    refine ⟨_, rfl, b, l, rfl, B2, fun p2 h2 r2 u2 H3 b0 b1 b2 b3 e2 B3 s3 => ?_⟩
    have e1 := s3 _ _ (B2.neT e1) e1
    refine ⟨_, rfl, b, l, _, rfl, B3, by decide, by decide, fun wy H4 c0 c1 B4 k4 => ?_⟩
    have s4 : SameB b H3 H4 := SameB.of k4
    have e1 := s4 _ _ (B3.neT e1) e1
    have e2 := s4 _ _ (B3.neT e2) e2
    let J : L2.St → Hp → Prop := fun σ' H' => ∃ (p' h' : Int) (r' : Bool) (t2 : Addr), σ' = [some (.ref a), some (.ref b), some (.ref t1), some (.ref t2), some (.int wy), none, none, none, none, none, none, none, none, none] ∧ 0 ≤ p' ∧ p' < 6 ∧ -9 ≤ h' ∧ h' ≤ 10 ^ 31 ∧
      H' t1 = some (.tup (rowV p h r)) ∧ H' t2 = some (.tup (rowV p' h' r')) ∧ Box H' b l
    have hJ : J [some (.ref a), some (.ref b), some (.ref t1), some (.ref u2), some (.int wy), none, none, none, none, none, none, none, none, none] H4 := ⟨p2, h2, r2, u2, rfl, b0, b1, b2, by omega, e1, e2, B4⟩
    refine ⟨J, ?_, ?_⟩
    · refine ⟨_, rfl, _, _, rfl, rfl, _, rfl, ite2 (fun _ => ?_) fun _ => hJ⟩
      exact ⟨_, rfl, p, h, r, t1, rfl, a0, a1, a2, by omega, e1, e1, B4⟩
    clear hJ
    rintro σ' H5 ⟨p', h', r', t2, rfl, d0, d1, d2, d3, e1, e2, B5⟩
    refine ⟨J, ?_, ?_⟩
    · refine ⟨_, rfl, rfl, _, rfl, ite2 (fun _ => ?_) fun _ => ⟨p', h', r', t2, rfl, d0, d1, d2, d3, e1, e2, B5⟩⟩
      refine ⟨_, rfl, t1, _, _, _, rfl, rfl, SqT.of e1, rfl, _, rfl, t1, _, _, _, rfl, rfl, SqT.of e1, rfl, _, rfl, t1, _, _, _, rfl, rfl, SqT.of e1, rfl, r, rfl, by show 3 ≤ sizeLine; decide, fun t ht => ?_⟩
      have S := same_new (o := .tup [V.int p, V.int h, V.bl (!r)]) ht
      exact ⟨p, h, !r, t, rfl, a0, a1, a2, by omega, S _ _ e1, upd_same, B5.same S⟩
    clear e1 e2 B5 d0 d1 d2 d3
    rintro σ' H6 ⟨p', h', r', t2, rfl, d0, d1, d2, d3, e1, e2, B6⟩
    refine ⟨J, ?_, ?_⟩
    · refine ⟨_, rfl, rfl, _, rfl, ite2 (fun _ => ?_) fun _ => ⟨p', h', r', t2, rfl, d0, d1, d2, d3, e1, e2, B6⟩⟩
      refine ⟨_, rfl, t1, _, _, _, rfl, rfl, SqT.of e1, rfl, _, rfl, t1, _, _, _, rfl, rfl, SqT.of e1, rfl, _, _, rfl, rfl, _, rfl, t1, _, _, _, rfl, rfl, SqT.of e1, rfl, by show 3 ≤ sizeLine; decide, fun t ht => ?_⟩
      have S := same_new (o := .tup [V.int p, V.int (h + 1), V.bl r]) ht
      exact ⟨p, h + 1, r, t, rfl, a0, a1, by omega, by omega, S _ _ e1, upd_same, B6.same S⟩
    clear e1 e2 B6 d0 d1 d2 d3
    rintro σ' H7 ⟨p', h', r', t2, rfl, d0, d1, d2, d3, e1, e2, B7⟩
    refine ⟨_, rfl, t1, _, _, _, rfl, rfl, SqT.of e1, rfl, _, rfl, t1, _, _, _, rfl, rfl, SqT.of e1, rfl, _, rfl, t1, _, _, _, rfl, rfl, SqT.of e1, rfl, mk_tri fun xa H8 hxa S8 hA => ?_⟩
    have e1 := S8 _ _ e1
    have e2 := S8 _ _ e2
    refine ⟨_, rfl, t2, _, _, _, rfl, rfl, SqT.of e2, rfl, _, rfl, t2, _, _, _, rfl, rfl, SqT.of e2, rfl, _, rfl, t2, _, _, _, rfl, rfl, SqT.of e2, rfl, mk_tri fun xb H9 hxb S9 hA2 => ?_⟩
    have W : Wd CT b l H9 t1 t2 xa xb p h r p' h' r' := ⟨S9 _ _ e1, S9 _ _ e2, hA.same S9, hA2, (B7.same S8).same S9⟩
    clear e1 e2 B7 hA hA2 S8 S9
    obtain ⟨dx, fs, oa, la⟩ := id W.A
    obtain ⟨dy, gs, ob, lb⟩ := id W.A2
    have sR := shaped_row p h r
    have sR' := shaped_row p' h' r'
    refine ⟨_, rfl, _, rfl, xa, xb, dx, dy, fs, gs, rfl, rfl, oa, ob, xa, p, h, r, xb, rfl, W.A, .inl ⟨p', h', r', W.A2, ?_⟩⟩
    refine ⟨_, rfl, _, rfl, _, _, dp_row W.e1, dp_row W.e2, sR, sR', _, _, rfl, _, rfl, if_f (by rw [eqv_row]; simp) ?_⟩
    refine ⟨_, rfl, _, rfl, xa, xb, dx, dy, fs, gs, rfl, rfl, oa, ob, xa, p, h, r, xb, rfl, W.A, .inl ⟨p', h', r', W.A2, _, rfl, ?_⟩⟩
    refine ⟨_, rfl, _, rfl, _, _, dp_row W.e1, dp_row W.e2, sR, sR', _, _, rfl, _, rfl, if_f (by rw [eqv_row]; simp) ?_⟩
    refine ⟨_, rfl, _, rfl, xa, t1, dx, fs, _, rfl, rfl, oa, W.e1, xa, p, h, r, t1, rfl, W.A, .inr ⟨_, W.e1, ?_⟩⟩
    refine ⟨_, rfl, if_f rfl ?_⟩
    -- the opposite
    refine ⟨_, rfl, xa, dx, fs, rfl, oa, xa, p, h, r, rfl, W.A, fun y H10 hy S10 hY => ?_⟩
    have W10 := W.same S10
    refine ⟨_, rfl, t1, _, _, _, rfl, rfl, SqT.of W10.e1, rfl, _, rfl, t1, _, _, _, rfl, rfl, SqT.of W10.e1, rfl, _, rfl, t1, _, _, _, rfl, rfl, SqT.of W10.e1, rfl, r, rfl, by show 3 ≤ sizeLine; decide, fun t ht => ?_⟩
    have st := same_new (o := .tup [V.int p, V.int h, V.bl (!r)]) ht
    have sp : p.natAbs < 2 ^ 1000 := z10 (by omega)
    have sh : h.natAbs < 2 ^ 1000 := z10 (by omega)
    have sp' : p'.natAbs < 2 ^ 1000 := z10 (by omega)
    have sh' : h'.natAbs < 2 ^ 1000 := z10 (by omega)
    refine ⟨y, t, p, h, !r, rfl, hY.same st, upd_same, sp, sh, true, rfl, if_f rfl ?_⟩
    have W11 := W10.same st
    clear hY W10 hy S10
    generalize upd H10 t (.tup [V.int p, V.int h, V.bl (!r)]) = H11 at W11 ⊢
    obtain ⟨dx, fs, oa, la⟩ := id W11.A
    refine ⟨_, rfl, xa, dx, fs, rfl, oa, xa, p, h, r, rfl, W11.A, fun y2 H12 hy2 S12 hY2 => ?_⟩
    obtain ⟨d2x, f2s, o2, _⟩ := id hY2
    refine ⟨y2, d2x, f2s, rfl, o2, y2, p, h, !r, rfl, hY2, fun y3 H13 hy3 S13 hY3 => ?_⟩
    have W13 := (W11.same S12).same S13
    obtain ⟨dx, fs, oa, la⟩ := id W13.A
    obtain ⟨d3x, f3s, o3, _⟩ := id hY3
    refine ⟨_, rfl, y3, xa, d3x, dx, f3s, fs, rfl, rfl, o3, oa, y3, p, h, !!r, xa, rfl, hY3, .inl ⟨p, h, r, W13.A, ?_⟩⟩
    refine ⟨_, true, rfl, _, rfl, if_f (by simp) ?_⟩
    clear W11 W hY2 hY3 o2 o3 oa S12 S13 ob la
    -- the heights
    refine ⟨_, rfl, b, l, _, rfl, W13.B, by decide, by decide, fun u H14 u0 u1 B14 k14 => ⟨_, _, rfl, rfl, _, rfl, by omega, by omega, fun D hD => ?_⟩⟩
    have W14 := W13.draw B14 (SameB.of k14)
    have nt1 := W14.B.neT W14.e1
    have nDb : D ≠ b := Ne.symm (B14.free hD).1
    refine lc_range (lo := 0) (n := (1 + u).toNat) (fun j H' => ∃ xs : List Int, H' D = some (.lst (xs.map V.int)) ∧ xs.length = j ∧ (∀ x ∈ xs, x.natAbs ≤ 10 ^ 32) ∧ Box H' b l ∧ SameB b H14 H')
      ⟨[], upd_same, rfl, (fun _ h => nomatch h), B14.at (B14.free hD), fun c o nc e => same_new hD _ _ e⟩ ?_ ?_
    · rintro j H15 hj ⟨xs, y1, y2, y3, B15, s15⟩
      refine ⟨rfl, _, rfl, t1, _, _, _, rfl, rfl, SqT.of (s15 _ _ nt1 W14.e1), rfl, _, rfl, b, l, _, rfl, B15, by decide, by decide, fun g H16 g0 g1 B16 k16 => ?_⟩
      refine ⟨_, _, rfl, rfl, _, _, rfl, rfl, _, (k16 D nDb).trans y1, small1000 (by rw [List.length_map]; omega), xs ++ [h + g - 2], ?_, by rw [List.length_append, y2]; rfl, fun y hy => ?_, ?_, ?_⟩
      · rw [upd_same, List.map_append]
        rfl
      · rcases List.mem_append.mp hy with hy | hy
        · exact y3 y hy
        · rw [List.mem_singleton] at hy
          omega
      · refine B16.keep fun d hd => upd_ne ?_
        rcases hd with rfl | rfl
        · exact Ne.symm nDb
        · exact (B14.free hD).2
      · intro d o nd e
        rw [upd_ne (ne_of_none e hD), k16 d nd]
        exact s15 d o nd e
    rintro H15 ⟨xs, y1, y2, y3, B15, s15⟩
    have W15 := W14.draw B15 s15
    have x0 : 0 < xs.length := by omega
    have x7 : xs.length ≤ 7 := by omega
    clear s15 B15 W14 W13 nt1 hD B14 k14 nDb
    refine ⟨_, rfl, D, _, rfl, .inl (SqL.of y1), fun PL hPL => ?_⟩
    have s16 := same_new (o := .lst (xs.map V.int)) hPL
    have yP : upd H15 PL (.lst (xs.map V.int)) PL = some (.lst (xs.map V.int)) := upd_same
    have W16 := W15.same s16
    have y1 := s16 _ _ y1
    clear W15 hPL
    generalize upd H15 PL (.lst (xs.map V.int)) = H16 at W16 y1 yP ⊢
    clear s16
    let σ0 : Option V → Option V → Option V → L2.St := fun v w u => [some (.ref a), some (.ref b), some (.ref t1), some (.ref t2), some (.int wy), some (.ref xa), some (.ref xb), some (.ref D), none, some (.ref PL), v, w, u, none]
    refine ⟨fun σ' H' => ∃ v, σ' = σ0 (some v) none none ∧ Tl H' v (agr xs p h r) p ∧ Same H16 H', ?_, ?_⟩
    · refine ⟨_, rfl, _, rfl, xa, PL, p, h, r, xs, rfl, W16.A, SqL.of yP, sp, fun bb hb => ?_, fun hn t H' S ht => ?_⟩
      · exact ⟨_, rfl, by rw [hb]; rfl, same_rfl⟩
      · exact ⟨_, rfl, by rw [hn]; exact ⟨t, rfl, ht⟩, S⟩
    rintro σ' H17 ⟨v, rfl, hv, S17⟩
    have W17 := W16.same S17
    have y1 := S17 _ _ y1
    have yP := S17 _ _ yP
    clear W16 S17
    refine ⟨fun σ' H' => ∃ w, σ' = σ0 (some v) (some w) none ∧ Tl H' w (agr xs p h (!r)) p ∧ Same H17 H', ?_, ?_⟩
    · obtain ⟨dx, fs, oa, la⟩ := id W17.A
      refine ⟨_, rfl, xa, dx, fs, rfl, oa, xa, p, h, r, rfl, W17.A, fun y H18 hy S18 hY => ?_⟩
      refine ⟨_, rfl, y, PL, p, h, !r, xs, rfl, hY, SqL.of (S18 _ _ yP), sp, fun bb hb => ?_, fun hn t H' S ht => ?_⟩
      · exact ⟨_, rfl, by rw [hb]; rfl, S18⟩
      · exact ⟨_, rfl, by rw [hn]; exact ⟨t, rfl, ht⟩, same_tr S18 S⟩
    rintro σ' H18 ⟨w, rfl, hw, S18⟩
    have W18 := W17.same S18
    have hv := hv.same S18
    have y1 := S18 _ _ y1
    have yP := S18 _ _ yP
    clear W17 S18
    refine ⟨fun σ' H' => ∃ u, σ' = σ0 (some v) (some w) u ∧ Same H18 H', ?_, ?_⟩
    · refine ⟨_, rfl, t1, _, _, _, rfl, rfl, SqT.of W18.e1, rfl, _, rfl, D, _, rfl, .inl (SqL.of y1), _, _, rfl, rfl, _, rfl, ?_⟩
      rw [List.length_map]
      by_cases c : p < (xs.length : Int)
      · refine if_t (decide_eq_true c) ?_
        obtain ⟨z, hz⟩ : ∃ z, xs[p.toNat]? = some z := ⟨_, List.getElem?_eq_getElem (by omega)⟩
        have hz' : atI (xs.map V.int) p = some (V.int z) := by
          obtain ⟨n, rfl⟩ := Int.eq_ofNat_of_zero_le a0
          exact atI_nat (by rw [List.getElem?_map]; simp at hz; rw [hz]; rfl)
        rw [agr_in a0 hz] at hv
        rw [agr_in a0 hz] at hw
        have ev : v = V.bl (if r = true then decide (z ≤ h) else decide (h < z)) := hv
        have ew : w = V.bl (if (!r) = true then decide (z ≤ h) else decide (h < z)) := hw
        subst ev ew
        refine ⟨_, rfl, _, rfl, t1, _, _, _, rfl, rfl, SqT.of W18.e1, rfl, D, _, _, _, rfl, rfl, SqL.of y1, hz', _, rfl, t1, _, _, _, rfl, rfl, SqT.of W18.e1, rfl, _, _, rfl, rfl, _, rfl, t1, _, _, _, rfl, rfl, SqT.of W18.e1, rfl, rfl, ?_⟩
        have ed : decide (V.bl (decide (z ≤ h)) = V.bl r) = decide (decide (z ≤ h) = r) := by cases r <;> cases decide (z ≤ h) <;> rfl
        refine ⟨_, rfl, _, rfl, _, _, rfl, _, rfl, if_f (by rw [ed]; cases r <;> by_cases q : z ≤ h <;> simp [q] <;> omega) ?_⟩
        refine ⟨_, rfl, _, rfl, _, rfl, _, _, rfl, _, rfl, if_f (by rw [ed]; cases r <;> by_cases q : z ≤ h <;> simp [q] <;> omega) ?_⟩
        exact ⟨_, rfl, same_rfl⟩
      · refine if_f (decide_eq_false c) ?_
        rw [agr_out (by omega)] at hv
        rw [agr_out (by omega)] at hw
        obtain ⟨u1, ev, f1⟩ := hv
        obtain ⟨u2, ew, f2⟩ := hw
        subst ev ew
        have z := shaped_ei (y := "NoPlace") p (by decide +kernel)
        have dp : ∀ {H' : Hp} {t : Addr}, H' t = some (.tup [.str "NoPlace", .int p]) → Dp K H' (.ref t) (.tuple [.str "NoPlace", .int p]) := fun e => .tup (SqT.of e) (.cons (.str _) (.cons (.int _) .nil))
        refine ⟨_, rfl, _, rfl, t1, _, _, _, rfl, rfl, SqT.of W18.e1, rfl, by show 2 ≤ sizeLine; decide, fun t ht => ?_⟩
        have S1 := same_new (o := .tup [.str "NoPlace", .int p]) ht
        refine ⟨_, _, dp (S1 _ _ f1), dp upd_same, z, z, _, rfl, if_f (by rw [eqv_rfl z]; rfl) ?_⟩
        refine ⟨_, rfl, _, rfl, t1, _, _, _, rfl, rfl, SqT.of (S1 _ _ W18.e1), rfl, by show 2 ≤ sizeLine; decide, fun t' ht' => ?_⟩
        have S2 := same_new (o := .tup [.str "NoPlace", .int p]) ht'
        refine ⟨_, _, dp (S2 _ _ (S1 _ _ f2)), dp upd_same, z, z, _, rfl, if_f (by rw [eqv_rfl z]; rfl) ?_⟩
        exact ⟨_, rfl, same_tr S1 S2⟩
    rintro σ' H19 ⟨u, rfl, S19⟩
    have W19 := W18.same S19
    have y1 := S19 _ _ y1
    have yP := S19 _ _ yP
    clear W18 S19
    have z8 : ∀ {n : Nat}, n ≤ 10 ^ 42 → n < 2 ^ 8000 := fun {n} h1 => Nat.lt_of_le_of_lt h1 (Nat.lt_of_lt_of_le (show 10 ^ 42 < 2 ^ 200 by decide +kernel) (Nat.pow_le_pow_right (by decide) (by decide)))
    refine ⟨_, rfl, _, rfl, _, rfl, D, _, rfl, .inl (SqL.of y1), b, l, _, rfl, W19.B, by rw [List.length_map]; omega, z8 (by rw [List.length_map]; omega), fun q H20 q0 q1 B20 k20 => ⟨_, _, rfl, rfl, ?_⟩⟩
    rw [List.length_map] at q1
    have s20 : SameB b H19 H20 := SameB.of k20
    have W20 := W19.draw B20 s20
    have y1 := s20 _ _ (W19.B.neNs y1) y1
    have yP := s20 _ _ (W19.B.neNs yP) yP
    clear W19 s20 B20 k20
    refine ⟨_, rfl, _, rfl, t1, _, _, _, rfl, rfl, SqT.of W20.e1, rfl, mk_tri fun y H21 hy S21 hY => ?_⟩
    have W21 := W20.same S21
    refine ⟨_, rfl, y, PL, -1 - q, h, true, xs, rfl, hY, SqL.of (S21 _ _ yP), z10 (by omega), fun bb hb => ?_, fun hn t H22 S ht => ?_⟩
    · rw [agr_out (by omega)] at hb
      cases hb
    have W22 := W21.same S
    have z := shaped_ei (y := "NoPlace") (-1 - q) (by decide +kernel)
    have dp : ∀ {H' : Hp} {t : Addr}, H' t = some (.tup [.str "NoPlace", .int (-1 - q)]) → Dp K H' (.ref t) (.tuple [.str "NoPlace", .int (-1 - q)]) := fun e => .tup (SqT.of e) (.cons (.str _) (.cons (.int _) .nil))
    refine ⟨_, rfl, by show 2 ≤ sizeLine; decide, fun t' ht' => ?_⟩
    have S2 := same_new (o := .tup [.str "NoPlace", .int (-1 - q)]) ht'
    refine ⟨_, _, dp (S2 _ _ ht), dp upd_same, z, z, _, rfl, if_f (by rw [eqv_rfl z]; rfl) ?_⟩
    have W23 := W22.same S2
    have y1 := S2 _ _ (S _ _ (S21 _ _ y1))
    have yP := S2 _ _ (S _ _ (S21 _ _ yP))
    clear W20 W21 W22 dp z hn ht hY hy ht'
    generalize upd H22 t' (.tup [V.str "NoPlace", .int (-1 - q)]) = H23 at *
    clear S2 S S21
    have zx := shaped_ints xs
    refine ⟨_, rfl, _, rfl, _, _, .lst (SqL.of yP) (dp_ints xs), .lst (SqL.of y1) (dp_ints xs), zx, zx, _, rfl, if_f (by rw [eqv_rfl zx]; rfl) ?_⟩
    refine ⟨_, rfl, _, rfl, _, _, rfl, rfl, pow_ok (by decide), b, l, _, rfl, W23.B, by decide +kernel, by decide +kernel, fun L H24 L0 L1 B24 k24 => ?_⟩
    have L1 : L < 10 ^ 12 := L1
    have W24 := W23.draw B24 (SameB.of k24)
    refine ⟨_, rfl, _, _, rfl, rfl, pow_ok (by decide), by show 2 ≤ sizeLine; decide, fun pl hpl => ?_⟩
    have W25 := W24.same (same_new (o := .lst [V.int 9, V.int (10 ^ 12)]) hpl)
    have epl : upd H24 pl (.lst [V.int 9, V.int (10 ^ 12)]) pl = some (.lst ([9, 10 ^ 12].map V.int)) := upd_same
    refine ⟨_, rfl, b, l, _, rfl, W25.B, by decide, by decide, fun g H26 g0 g1 B26 k26 => ?_⟩
    have s26 := SameB.of k26
    have W26 := W25.draw B26 s26
    have epl := s26 _ _ (W25.B.neNs epl) epl
    obtain ⟨m, hm, m0, m1⟩ : ∃ m : Int, atI (([9, 10 ^ 12] : List Int).map V.int) g = some (.int m) ∧ 0 < m ∧ m ≤ 10 ^ 12 := by
      rcases (by omega : g = 0 ∨ g = 1) with rfl | rfl
      · exact ⟨9, rfl, by decide, by decide⟩
      · exact ⟨10 ^ 12, rfl, by decide, by decide⟩
    refine ⟨pl, _, _, _, rfl, rfl, SqL.of epl, hm, b, l, _, rfl, W26.B, m0, z8 (by omega), fun f H27 f0 f1 B27 k27 => ?_⟩
    have W27 := W26.draw B27 (SameB.of k27)
    have zs : ∀ {x : Int}, x.natAbs ≤ 10 ^ 20 → Sz x := fun {x} h1 => Nat.lt_of_le_of_lt h1 (by decide +kernel)
    refine ⟨t1, p, h, L, f, r, rfl, W27.e1, zs (by omega), zs (by omega), zs (by omega), L0, f0, fun H28 S28 => ⟨true, rfl, if_f rfl ?_⟩⟩
    have W28 := W27.same S28
    exact ⟨_, rfl, _, rfl, xa, t1, p, h, r, rfl, W28.A, W28.e1, sp, sh, true, rfl, if_t rfl ⟨_, rfl, _, rfl, xb, t2, p', h', r', rfl, W28.A2, W28.e2, sp', sh', k _⟩⟩
end
end Law

namespace Law
open PySem PySem.Spec PyProof.Rows L2 Sup NdefX
abbrev sEP : Stmt := inClass (top 4) 0
theorem all_mk {P : Program} {w : World} {K : PySem.W.Frag} {h : Heap} {mg : Str → Option Value} {fa : Addr} (X : K.In h) (G : h.Ns mainGlobals mg) (hfa : mg "law" = some (.ref fa)) (htop : (P.main.scope.names.lookup ("super" : Str)).isSome = false)
    {fK : Addr} {odK anK : Option Addr} {slK : Array (Option Value)} {ocK kVK dcK pmK cdK ctK : Value}
    {fF : Addr} {odF anF : Option Addr} {slF : Array (Option Value)} {ocF kVF dcF pmF cdF ctF : Value}
    {DTF : Addr} {xoF : Value} {xdF : Option Addr} {xsF : Array (Option Value)} {xnF : Nat} {tkF : Tok}
    {fMi : Addr} {odMi anMi : Option Addr} {slMi : Array (Option Value)} {ocMi kVMi dcMi pmMi cdMi ctMi : Value}
    {DTMi : Addr} {xoMi : Value} {xdMi : Option Addr} {xsMi : Array (Option Value)} {xnMi : Nat} {tkI : Tok}
    {fMc : Addr} {odMc anMc : Option Addr} {slMc : Array (Option Value)} {ocMc kVMc dcMc pmMc cdMc ctMc : Value}
    {DTMc : Addr} {xoMc : Value} {xdMc : Option Addr} {xsMc : Array (Option Value)} {xnMc : Nat} {tkC : Tok}
    {fTi : Addr} {odTi anTi : Option Addr} {slTi : Array (Option Value)} {ocTi kVTi dcTi pmTi cdTi ctTi : Value}
    {fTl : Addr} {odTl anTl : Option Addr} {slTl : Array (Option Value)} {ocTl kVTl dcTl pmTl cdTl ctTl : Value}
    {fTa : Addr} {odTa anTa : Option Addr} {slTa : Array (Option Value)} {ocTa kVTa dcTa pmTa cdTa ctTa : Value}
    {fTv : Addr} {odTv anTv : Option Addr} {slTv : Array (Option Value)} {ocTv kVTv dcTv pmTv cdTv ctTv : Value}
    {fTe : Addr} {odTe anTe : Option Addr} {slTe : Array (Option Value)} {ocTe kVTe dcTe pmTe cdTe ctTe : Value}
    {fTs : Addr} {odTs anTs : Option Addr} {slTs : Array (Option Value)} {ocTs kVTs dcTs pmTs cdTs ctTs : Value}
    {fB : Addr} {odB anB : Option Addr} {slB : Array (Option Value)} {ocB kVB dcB pmB cdB ctB : Value}
    {fT : Addr} {odT anT : Option Addr} {slT : Array (Option Value)} {ocT kVT dcT pmT cdT ctT : Value}
    {fSy : Addr} {odSy anSy : Option Addr} {slSy : Array (Option Value)} {ocSy kVSy dcSy pmSy cdSy ctSy : Value}
    {fRo : Addr} {odRo anRo : Option Addr} {slRo : Array (Option Value)} {ocRo kVRo dcRo pmRo cdRo ctRo : Value}
    {fWh : Addr} {odWh anWh : Option Addr} {slWh : Array (Option Value)} {ocWh kVWh dcWh pmWh cdWh ctWh : Value}
    {fAg : Addr} {odAg anAg : Option Addr} {slAg : Array (Option Value)} {ocAg kVAg dcAg pmAg cdAg ctAg : Value}
    {fLe : Addr} {odLe anLe : Option Addr} {slLe : Array (Option Value)} {ocLe kVLe dcLe pmLe cdLe ctLe : Value}
    {fRc : Addr} {odRc anRc : Option Addr} {slRc : Array (Option Value)} {ocRc kVRc dcRc pmRc cdRc ctRc : Value}
    {fLg : Addr} {odLg anLg : Option Addr} {slLg : Array (Option Value)} {ocLg kVLg dcLg pmLg cdLg ctLg : Value}
    {fL : Addr} {odL anL : Option Addr} {slL : Array (Option Value)} {ocL kVL dcL pmL cdL ctL : Value}
    {CEB BEB fiEB cdEB ccEB NEB : Addr} {nmEB qEB : Str} {bsEB : List Value} {snEB : List Str} {subEB : List Value} {abEB : Bool} {colEB : Option Bool} {ddEB : Option Addr} {m0EB m1EB m2EB m3EB m5EB : Option Value}
    {odEB anEB dkEB deEB : Option Addr} {slEB skEB seEB : Array (Option Value)} {ocEB kVEB dcEB pmEB ctEB ckEB ceEB : Value} {vkEB : Array Value} {flEB : Str} {tfEB : Tok}
    {CEP BEP fiEP cdEP ccEP NEP : Addr} {nmEP qEP : Str} {bsEP : List Value} {snEP : List Str} {subEP : List Value} {abEP : Bool} {colEP : Option Bool} {ddEP : Option Addr} {m0EP m1EP m2EP m3EP m5EP : Option Value}
    {odEP anEP dkEP deEP : Option Addr} {slEP skEP seEP : Array (Option Value)} {ocEP kVEP dcEP pmEP ctEP ckEP ceEP : Value} {vkEP : Array Value} {flEP : Str} {tfEP : Tok}
    {CLadder CTrial fJ : Addr} {pTl : Addr} {rsTl : List Value}
    (aCL : PySem.W.nsIn K mainGlobals "Ladder" = some (some (.ref CLadder)))
    (aCT : PySem.W.nsIn K mainGlobals "Trial" = some (some (.ref CTrial)))
    (aJ : PySem.W.nsIn K mainGlobals "joined_length" = some (some (.ref fJ)))
    (aK : PySem.W.nsIn K mainGlobals "check_not_negative" = some (some (.ref fK)))
    (lK : K.lookup fK = some ⟨ocK, odK, .func (PySem.W.fnOf "check_not_negative" "check_not_negative" (defArgs sChk) (defBody sChk) (defScope sChk) .none kVK dcK pmK anK cdK ctK), slK⟩)
    (cK : PySem.W.codeIn K cdK "check_not_negative" = true)
    (kK : PySem.W.keepIn K (.ref fK) = true)
    (aF : PySem.W.nsIn K mainGlobals "reach" = some (some (.ref fF)))
    (lF : K.lookup fF = some ⟨ocF, odF, .func (PySem.W.fnOf "reach" "reach" (defArgs sReach) (defBody sReach) (defScope sReach) (.ref DTF) kVF dcF pmF anF cdF ctF), slF⟩)
    (cF : PySem.W.codeIn K cdF "reach" = true)
    (kF : PySem.W.keepIn K (.ref fF) = true)
    (dF : K.lookup DTF = some ⟨xoF, xdF, .seq #[.int 0 tkF] xnF, xsF⟩)
    (aMi : PySem.W.findIn K (.ref CLadder) "__init__" = some (some (.ref fMi)))
    (lMi : K.lookup fMi = some ⟨ocMi, odMi, .func (PySem.W.fnOf "__init__" "Ladder.__init__" (defArgs sInit) (defBody sInit) (defScope sInit) (.ref DTMi) kVMi dcMi pmMi anMi cdMi ctMi), slMi⟩)
    (cMi : PySem.W.codeIn K cdMi "Ladder.__init__" = true)
    (kMi : PySem.W.keepIn K (.ref fMi) = true)
    (iMi : PySem.W.isFn K (.ref fMi) = true)
    (dMi : K.lookup DTMi = some ⟨xoMi, xdMi, .seq #[.int 1 tkI] xnMi, xsMi⟩)
    (aMc : PySem.W.findIn K (.ref CLadder) "__call__" = some (some (.ref fMc)))
    (lMc : K.lookup fMc = some ⟨ocMc, odMc, .func (PySem.W.fnOf "__call__" "Ladder.__call__" (defArgs sCallL) (defBody sCallL) (defScope sCallL) (.ref DTMc) kVMc dcMc pmMc anMc cdMc ctMc), slMc⟩)
    (cMc : PySem.W.codeIn K cdMc "Ladder.__call__" = true)
    (kMc : PySem.W.keepIn K (.ref fMc) = true)
    (iMc : PySem.W.isFn K (.ref fMc) = true)
    (dMc : K.lookup DTMc = some ⟨xoMc, xdMc, .seq #[.int 0 tkC] xnMc, xsMc⟩)
    (aTi : PySem.W.findIn K (.ref CTrial) "__init__" = some (some (.ref fTi)))
    (lTi : K.lookup fTi = some ⟨ocTi, odTi, .func (PySem.W.fnOf "__init__" "Trial.__init__" (defArgs sTini) (defBody sTini) (defScope sTini) .none kVTi dcTi pmTi anTi cdTi ctTi), slTi⟩)
    (cTi : PySem.W.codeIn K cdTi "Trial.__init__" = true)
    (kTi : PySem.W.keepIn K (.ref fTi) = true)
    (iTi : PySem.W.isFn K (.ref fTi) = true)
    (aTl : PySem.W.findCls K (.ref CTrial) (.type "type") "leant" = some (.get (.builtin "classmethod.__get__") (.ref pTl) .none (.ref CTrial)))
    (rTl : PySem.W.recIn K pTl "classmethod" = some (.ref fTl :: rsTl))
    (lTl : K.lookup fTl = some ⟨ocTl, odTl, .func (PySem.W.fnOf "leant" "Trial.leant" (defArgs sTln) (defBody sTln) (defScope sTln) .none kVTl dcTl pmTl anTl cdTl ctTl), slTl⟩)
    (cTl : PySem.W.codeIn K cdTl "Trial.leant" = true)
    (kTl : PySem.W.keepIn K (.ref fTl) = true)
    (iTl : PySem.W.isFn K (.ref fTl) = true)
    (aTa : PySem.W.findIn K (.ref CTrial) "agrees" = some (some (.ref fTa)))
    (lTa : K.lookup fTa = some ⟨ocTa, odTa, .func (PySem.W.fnOf "agrees" "Trial.agrees" (defArgs sAgr) (defBody sAgr) (defScope sAgr) .none kVTa dcTa pmTa anTa cdTa ctTa), slTa⟩)
    (cTa : PySem.W.codeIn K cdTa "Trial.agrees" = true)
    (kTa : PySem.W.keepIn K (.ref fTa) = true)
    (iTa : PySem.W.isFn K (.ref fTa) = true)
    (aTv : PySem.W.findIn K (.ref CTrial) "__invert__" = some (some (.ref fTv)))
    (lTv : K.lookup fTv = some ⟨ocTv, odTv, .func (PySem.W.fnOf "__invert__" "Trial.__invert__" (defArgs sTnv) (defBody sTnv) (defScope sTnv) .none kVTv dcTv pmTv anTv cdTv ctTv), slTv⟩)
    (cTv : PySem.W.codeIn K cdTv "Trial.__invert__" = true)
    (kTv : PySem.W.keepIn K (.ref fTv) = true)
    (iTv : PySem.W.isFn K (.ref fTv) = true)
    (aTe : PySem.W.findIn K (.ref CTrial) "__eq__" = some (some (.ref fTe)))
    (lTe : K.lookup fTe = some ⟨ocTe, odTe, .func (PySem.W.fnOf "__eq__" "Trial.__eq__" (defArgs sTeq) (defBody sTeq) (defScope sTeq) .none kVTe dcTe pmTe anTe cdTe ctTe), slTe⟩)
    (cTe : PySem.W.codeIn K cdTe "Trial.__eq__" = true)
    (kTe : PySem.W.keepIn K (.ref fTe) = true)
    (iTe : PySem.W.isFn K (.ref fTe) = true)
    (aTs : PySem.W.findIn K (.ref CTrial) "__str__" = some (some (.ref fTs)))
    (lTs : K.lookup fTs = some ⟨ocTs, odTs, .func (PySem.W.fnOf "__str__" "Trial.__str__" (defArgs sTst) (defBody sTst) (defScope sTst) .none kVTs dcTs pmTs anTs cdTs ctTs), slTs⟩)
    (cTs : PySem.W.codeIn K cdTs "Trial.__str__" = true)
    (kTs : PySem.W.keepIn K (.ref fTs) = true)
    (iTs : PySem.W.isFn K (.ref fTs) = true)
    (aB : PySem.W.nsIn K mainGlobals "_law_box" = some (some (.ref fB)))
    (lB : K.lookup fB = some ⟨ocB, odB, .func (PySem.W.fnOf "_law_box" "_law_box" (defArgs sBox) (defBody sBox) (defScope sBox) .none kVB dcB pmB anB cdB ctB), slB⟩)
    (cB : PySem.W.codeIn K cdB "_law_box" = true)
    (kB : PySem.W.keepIn K (.ref fB) = true)
    (aT : PySem.W.nsIn K mainGlobals "_law_take" = some (some (.ref fT)))
    (lT : K.lookup fT = some ⟨ocT, odT, .func (PySem.W.fnOf "_law_take" "_law_take" (defArgs sTake) (defBody sTake) (defScope sTake) .none kVT dcT pmT anT cdT ctT), slT⟩)
    (cT : PySem.W.codeIn K cdT "_law_take" = true)
    (kT : PySem.W.keepIn K (.ref fT) = true)
    (aSy : PySem.W.nsIn K mainGlobals "_law_says" = some (some (.ref fSy)))
    (lSy : K.lookup fSy = some ⟨ocSy, odSy, .func (PySem.W.fnOf "_law_says" "_law_says" (defArgs sSays) (defBody sSays) (defScope sSays) .none kVSy dcSy pmSy anSy cdSy ctSy), slSy⟩)
    (cSy : PySem.W.codeIn K cdSy "_law_says" = true)
    (kSy : PySem.W.keepIn K (.ref fSy) = true)
    (aRo : PySem.W.nsIn K mainGlobals "_law_row" = some (some (.ref fRo)))
    (lRo : K.lookup fRo = some ⟨ocRo, odRo, .func (PySem.W.fnOf "_law_row" "_law_row" (defArgs sRow) (defBody sRow) (defScope sRow) .none kVRo dcRo pmRo anRo cdRo ctRo), slRo⟩)
    (cRo : PySem.W.codeIn K cdRo "_law_row" = true)
    (kRo : PySem.W.keepIn K (.ref fRo) = true)
    (aWh : PySem.W.nsIn K mainGlobals "_law_whole" = some (some (.ref fWh)))
    (lWh : K.lookup fWh = some ⟨ocWh, odWh, .func (PySem.W.fnOf "_law_whole" "_law_whole" (defArgs sWho) (defBody sWho) (defScope sWho) .none kVWh dcWh pmWh anWh cdWh ctWh), slWh⟩)
    (cWh : PySem.W.codeIn K cdWh "_law_whole" = true)
    (kWh : PySem.W.keepIn K (.ref fWh) = true)
    (aAg : PySem.W.nsIn K mainGlobals "_law_agrees" = some (some (.ref fAg)))
    (lAg : K.lookup fAg = some ⟨ocAg, odAg, .func (PySem.W.fnOf "_law_agrees" "_law_agrees" (defArgs sAgL) (defBody sAgL) (defScope sAgL) .none kVAg dcAg pmAg anAg cdAg ctAg), slAg⟩)
    (cAg : PySem.W.codeIn K cdAg "_law_agrees" = true)
    (kAg : PySem.W.keepIn K (.ref fAg) = true)
    (aLe : PySem.W.nsIn K mainGlobals "_law_leant" = some (some (.ref fLe)))
    (lLe : K.lookup fLe = some ⟨ocLe, odLe, .func (PySem.W.fnOf "_law_leant" "_law_leant" (defArgs sLea) (defBody sLea) (defScope sLea) .none kVLe dcLe pmLe anLe cdLe ctLe), slLe⟩)
    (cLe : PySem.W.codeIn K cdLe "_law_leant" = true)
    (kLe : PySem.W.keepIn K (.ref fLe) = true)
    (aRc : PySem.W.nsIn K mainGlobals "_law_reaches" = some (some (.ref fRc)))
    (lRc : K.lookup fRc = some ⟨ocRc, odRc, .func (PySem.W.fnOf "_law_reaches" "_law_reaches" (defArgs sRch) (defBody sRch) (defScope sRch) .none kVRc dcRc pmRc anRc cdRc ctRc), slRc⟩)
    (cRc : PySem.W.codeIn K cdRc "_law_reaches" = true)
    (kRc : PySem.W.keepIn K (.ref fRc) = true)
    (aLg : PySem.W.nsIn K mainGlobals "_law_leaning" = some (some (.ref fLg)))
    (lLg : K.lookup fLg = some ⟨ocLg, odLg, .func (PySem.W.fnOf "_law_leaning" "_law_leaning" (defArgs sLng) (defBody sLng) (defScope sLng) .none kVLg dcLg pmLg anLg cdLg ctLg), slLg⟩)
    (cLg : PySem.W.codeIn K cdLg "_law_leaning" = true)
    (kLg : PySem.W.keepIn K (.ref fLg) = true)
    (aL : PySem.W.nsIn K mainGlobals "law" = some (some (.ref fL)))
    (lL : K.lookup fL = some ⟨ocL, odL, .func (PySem.W.fnOf "law" "law" (defArgs sLaw) (defBody sLaw) (defScope sLaw) .none kVL dcL pmL anL cdL ctL), slL⟩)
    (cL : PySem.W.codeIn K cdL "law" = true)
    (kL : PySem.W.keepIn K (.ref fL) = true)
    (opq : PySem.W.nsIn K cStatics "thirdparty.any" = some none)
    (nsup : PySem.W.nsIn K mainGlobals "super" = some none)
    (aEB : PySem.W.nsIn K mainGlobals "BadNumber" = some (some (.ref CEB)))
    (xEB : K.lookup CEB = some (excClassObj nmEB qEB CEB NEB bsEB [.ref BEB, .type "ValueError", .type "Exception", .type "BaseException", .type "object"] true snEB subEB abEB colEB ddEB m0EB m1EB m2EB m3EB m5EB "ValueError.__new__"))
    (saEB : PySem.W.findIn K (.ref CEB) "__setattr__" = some (some (.builtin "object.__setattr__")))
    (gaEB : PySem.W.findIn K (.ref CEB) "__getattribute__" = some (some (.builtin "BaseException.__getattribute__")))
    (ggEB : PySem.W.findIn K (.ref CEB) "__getattr__" = some none)
    (nbEB : PySem.W.findIn K (.ref CEB) "value" = some none)
    (iEB : PySem.W.findIn K (.ref CEB) "__init__" = some (some (.ref fiEB)))
    (tEB : PySem.W.typeIn K (.ref fiEB) = some (.type "function"))
    (lEB : K.lookup fiEB = some ⟨ocEB, odEB, .func (PySem.W.fnX "__init__" "BadNumber.__init__" (defArgs sErr) (defBody sErr) (defScope sErr) [("__class__", ccEB)] .none kVEB dcEB pmEB anEB (.ref cdEB) ctEB), slEB⟩)
    (coEB : PySem.W.codeIn K (.ref cdEB) "BadNumber.__init__" = true)
    (lkEB : K.lookup cdEB = some ⟨ckEB, dkEB, .fields vkEB, skEB⟩)
    (vkEBx : vkEB[2]? = some (.str flEB tfEB))
    (feEB : ((P.main.file : Str) == flEB) = true)
    (leEB : K.lookup ccEB = some ⟨ceEB, deEB, .cell (some (.ref CEB)), seEB⟩)
    (mrEB : PySem.W.mroIn K CEB (.ref CEB) = some true)
    (upEB : PySem.W.ks_superIn K CEB CEB "__init__" = some (some (.builtin "ValueError.__init__")))
    (svEB : PySem.W.subIn K (.ref CEB) (.type "ValueError") = some true)
    (kcEB : PySem.W.keepIn K (.ref CEB) = true)
    (ebEB : PySem.W.subIn K (.ref CEB) (.type "BaseException") = some true)
    (tyEB : PySem.W.typeIn K (.ref CEB) = some (.type "type"))
    (hdEB : PySem.W.hasDictIn K CEB = true)
    (ssEB : PySem.W.subIn K (.ref CEB) (.ref CEB) = some true)
    (aEP : PySem.W.nsIn K mainGlobals "NoPlace" = some (some (.ref CEP)))
    (xEP : K.lookup CEP = some (excClassObj nmEP qEP CEP NEP bsEP [.ref BEP, .type "ValueError", .type "Exception", .type "BaseException", .type "object"] true snEP subEP abEP colEP ddEP m0EP m1EP m2EP m3EP m5EP "ValueError.__new__"))
    (saEP : PySem.W.findIn K (.ref CEP) "__setattr__" = some (some (.builtin "object.__setattr__")))
    (gaEP : PySem.W.findIn K (.ref CEP) "__getattribute__" = some (some (.builtin "BaseException.__getattribute__")))
    (ggEP : PySem.W.findIn K (.ref CEP) "__getattr__" = some none)
    (nbEP : PySem.W.findIn K (.ref CEP) "place" = some none)
    (iEP : PySem.W.findIn K (.ref CEP) "__init__" = some (some (.ref fiEP)))
    (tEP : PySem.W.typeIn K (.ref fiEP) = some (.type "function"))
    (lEP : K.lookup fiEP = some ⟨ocEP, odEP, .func (PySem.W.fnX "__init__" "NoPlace.__init__" (defArgs sEP) (defBody sEP) (defScope sEP) [("__class__", ccEP)] .none kVEP dcEP pmEP anEP (.ref cdEP) ctEP), slEP⟩)
    (coEP : PySem.W.codeIn K (.ref cdEP) "NoPlace.__init__" = true)
    (lkEP : K.lookup cdEP = some ⟨ckEP, dkEP, .fields vkEP, skEP⟩)
    (vkEPx : vkEP[2]? = some (.str flEP tfEP))
    (feEP : ((P.main.file : Str) == flEP) = true)
    (leEP : K.lookup ccEP = some ⟨ceEP, deEP, .cell (some (.ref CEP)), seEP⟩)
    (mrEP : PySem.W.mroIn K CEP (.ref CEP) = some true)
    (upEP : PySem.W.ks_superIn K CEP CEP "__init__" = some (some (.builtin "ValueError.__init__")))
    (svEP : PySem.W.subIn K (.ref CEP) (.type "ValueError") = some true)
    (kcEP : PySem.W.keepIn K (.ref CEP) = true)
    (ebEP : PySem.W.subIn K (.ref CEP) (.type "BaseException") = some true)
    (tyEP : PySem.W.typeIn K (.ref CEP) = some (.type "type"))
    (hdEP : PySem.W.hasDictIn K CEP = true)
    (ssEP : PySem.W.subIn K (.ref CEP) (.ref CEP) = some true)
    (n_len : PySem.W.nsIn K mainGlobals "len" = some none)
    (n_int : PySem.W.nsIn K mainGlobals "int" = some none)
    (n_isinstance : PySem.W.nsIn K mainGlobals "isinstance" = some none)
    (n_range : PySem.W.nsIn K mainGlobals "range" = some none)
    (n_list : PySem.W.nsIn K mainGlobals "list" = some none)
    (n_str : PySem.W.nsIn K mainGlobals "str" = some none)
    (g_isqrt : PySem.W.nsIn K mainGlobals "isqrt" = some (some (.builtin "math.isqrt")))
    (xhn : PySem.W.specialIn K (.builtin "object.__class__") "__get__" = some (some (.builtin "getset_descriptor.__get__")))
    (xht : PySem.W.takesIn K (.builtin "object.__class__") = some true)
    (dPG : PySem.W.plainGet K CLadder Str.empty = true)
    (dHD : PySem.W.hasDictIn K CLadder = true)
    (dPO : PySem.W.plainOver K CLadder = true)
    (dSA : PySem.W.findIn K (.ref CLadder) "__setattr__" = some (some (.builtin "object.__setattr__")))
    (dMK : PySem.W.makesIn K CLadder = true)
    (dKP : PySem.W.keepIn K (.ref CLadder) = true)
    (dHA : PySem.W.findIn K (.ref CLadder) "__class__" = some (some (.builtin "object.__class__")))
    (dHM : PySem.W.mroIn K CLadder (.type "object") = some true)
    (dF0 : PySem.W.findIn K (.ref CLadder) "length" = some none)
    (dF1 : PySem.W.findIn K (.ref CLadder) "parts" = some none)
    (tPG : PySem.W.plainGet K CTrial Str.empty = true)
    (tHD : PySem.W.hasDictIn K CTrial = true)
    (tPO : PySem.W.plainOver K CTrial = true)
    (tSA : PySem.W.findIn K (.ref CTrial) "__setattr__" = some (some (.builtin "object.__setattr__")))
    (tMK : PySem.W.makesIn K CTrial = true)
    (tKP : PySem.W.keepIn K (.ref CTrial) = true)
    (tHA : PySem.W.findIn K (.ref CTrial) "__class__" = some (some (.builtin "object.__class__")))
    (tHM : PySem.W.mroIn K CTrial (.type "object") = some true)
    (tF0 : PySem.W.findIn K (.ref CTrial) "place" = some none)
    (tF1 : PySem.W.findIn K (.ref CTrial) "height" = some none)
    (tF2 : PySem.W.findIn K (.ref CTrial) "reached" = some none)
    (cFI : PySem.W.fnIn K fMc = true)
    (fnP : PySem.W.fnIn K fTl = true)
    (tNE : PySem.W.findIn K (.ref CTrial) "__ne__" = some (some (.builtin "object.__ne__")))
    (tSI : PySem.W.subIn K (.type "tuple") (.ref CTrial) = some false)
    (tKI : PySem.W.kitOne K (.type "tuple") (.ref CTrial) = some false)
    (rdT : PySem.W.readsIn K CTrial (.type "type") = true)
    (gaT : PySem.W.specialIn K (.ref CTrial) "__getattribute__" = some (some (.builtin "type.__getattribute__"))) :
    ∃ fd : FuncData, (∀ (s : Shared) (v : Value), BindsTo s fd ⟨[v], []⟩ [("_law_script", v)]) ∧ ∀ base : Heap, K.In base → base.Ns mainGlobals mg → FnOk P w K mg base CX0 10 fa fd ["_law_script"] (spLaw K) := by
  have e := hfa.symm.trans (PySem.W.mg_of X G aL)
  cases e
  have FK := fun_mk (st := sChk) lK cK kK
  have bK := FK.binds (ps := ["number"]) fun _ _ _ _ _ _ us hl => match us, hl with | [_], _ => rfl
  have FF : FunD K "reach" "reach" (defArgs sReach) (defBody sReach) (defScope sReach) [.int 0] [] fF _ := ⟨⟨ocF, odF, .ref DTF, kVF, dcF, pmF, anF, cdF, ctF, slF, rfl, lF, cF, .inr ⟨by simp, DTF, _, [.int 0 tkF], xnF, rfl, dF, rfl, .cons (⟨_, rfl⟩) (.nil)⟩, .inl rfl⟩, kF⟩
  obtain ⟨dsF0, vdF0, bF0⟩ := FF.binds1 (ps := ["length", "foot"]) 1 0 (by simp) (by decide) fun T kV doc pm an cdv ct us its hu hi => match us, hu, its, hi with | [_], _, [_], _ => ⟨_, rfl, rfl⟩
  obtain ⟨dsF1, vdF1, bF1⟩ := FF.binds1 (ps := ["length", "foot"]) 2 1 (by simp) (by decide) fun T kV doc pm an cdv ct us its hu hi => match us, hu, its, hi with | [_, _], _, [_], _ => ⟨_, rfl, rfl⟩
  cases vdF1
  have FMi : FunD K "__init__" "Ladder.__init__" (defArgs sInit) (defBody sInit) (defScope sInit) [.int 1] [] fMi _ := ⟨⟨ocMi, odMi, .ref DTMi, kVMi, dcMi, pmMi, anMi, cdMi, ctMi, slMi, rfl, lMi, cMi, .inr ⟨by simp, DTMi, _, [.int 1 tkI], xnMi, rfl, dMi, rfl, .cons (⟨_, rfl⟩) (.nil)⟩, .inl rfl⟩, kMi⟩
  obtain ⟨dsMi0, vdMi0, bMi0⟩ := FMi.binds1 (ps := ["self", "length", "parts"]) 2 0 (by simp) (by decide) fun T kV doc pm an cdv ct us its hu hi => match us, hu, its, hi with | [_, _], _, [_], _ => ⟨_, rfl, rfl⟩
  obtain ⟨dsMi1, vdMi1, bMi1⟩ := FMi.binds1 (ps := ["self", "length", "parts"]) 3 1 (by simp) (by decide) fun T kV doc pm an cdv ct us its hu hi => match us, hu, its, hi with | [_, _, _], _, [_], _ => ⟨_, rfl, rfl⟩
  cases vdMi1
  have FMc : FunD K "__call__" "Ladder.__call__" (defArgs sCallL) (defBody sCallL) (defScope sCallL) [.int 0] [] fMc _ := ⟨⟨ocMc, odMc, .ref DTMc, kVMc, dcMc, pmMc, anMc, cdMc, ctMc, slMc, rfl, lMc, cMc, .inr ⟨by simp, DTMc, _, [.int 0 tkC], xnMc, rfl, dMc, rfl, .cons (⟨_, rfl⟩) (.nil)⟩, .inl rfl⟩, kMc⟩
  obtain ⟨dsMc0, vdMc0, bMc0⟩ := FMc.binds1 (ps := ["self", "foot"]) 1 0 (by simp) (by decide) fun T kV doc pm an cdv ct us its hu hi => match us, hu, its, hi with | [_], _, [_], _ => ⟨_, rfl, rfl⟩
  obtain ⟨dsMc1, vdMc1, bMc1⟩ := FMc.binds1 (ps := ["self", "foot"]) 2 1 (by simp) (by decide) fun T kV doc pm an cdv ct us its hu hi => match us, hu, its, hi with | [_, _], _, [_], _ => ⟨_, rfl, rfl⟩
  cases vdMc1
  have FTi := fun_mk (st := sTini) lTi cTi kTi
  have bTi := FTi.binds (ps := ["self", "place", "height", "reached"]) fun _ _ _ _ _ _ us hl => match us, hl with | [_, _, _, _], _ => rfl
  have FTl := fun_mk (st := sTln) lTl cTl kTl
  have bTl := FTl.binds (ps := ["cls", "place", "ladder", "foot", "reached"]) fun _ _ _ _ _ _ us hl => match us, hl with | [_, _, _, _, _], _ => rfl
  have FTa := fun_mk (st := sAgr) lTa cTa kTa
  have bTa := FTa.binds (ps := ["self", "heights"]) fun _ _ _ _ _ _ us hl => match us, hl with | [_, _], _ => rfl
  have FTv := fun_mk (st := sTnv) lTv cTv kTv
  have bTv := FTv.binds (ps := ["self"]) fun _ _ _ _ _ _ us hl => match us, hl with | [_], _ => rfl
  have FTe := fun_mk (st := sTeq) lTe cTe kTe
  have bTe := FTe.binds (ps := ["self", "other"]) fun _ _ _ _ _ _ us hl => match us, hl with | [_, _], _ => rfl
  have FTs := fun_mk (st := sTst) lTs cTs kTs
  have bTs := FTs.binds (ps := ["self"]) fun _ _ _ _ _ _ us hl => match us, hl with | [_], _ => rfl
  have FB := fun_mk (st := sBox) lB cB kB
  have bB := FB.binds (ps := ["_law_script"]) fun _ _ _ _ _ _ us hl => match us, hl with | [_], _ => rfl
  have FT := fun_mk (st := sTake) lT cT kT
  have bT := FT.binds (ps := ["_law_box_here", "_law_size"]) fun _ _ _ _ _ _ us hl => match us, hl with | [_, _], _ => rfl
  have FSy := fun_mk (st := sSays) lSy cSy kSy
  have bSy := FSy.binds (ps := ["_law_told", "_law_due"]) fun _ _ _ _ _ _ us hl => match us, hl with | [_, _], _ => rfl
  have FRo := fun_mk (st := sRow) lRo cRo kRo
  have bRo := FRo.binds (ps := ["_law_box_here"]) fun _ _ _ _ _ _ us hl => match us, hl with | [_], _ => rfl
  have FWh := fun_mk (st := sWho) lWh cWh kWh
  have bWh := FWh.binds (ps := ["_law_trial", "_law_row_here"]) fun _ _ _ _ _ _ us hl => match us, hl with | [_, _], _ => rfl
  have FAg := fun_mk (st := sAgL) lAg cAg kAg
  have bAg := FAg.binds (ps := ["_law_trial", "_law_heights"]) fun _ _ _ _ _ _ us hl => match us, hl with | [_, _], _ => rfl
  have FLe := fun_mk (st := sLea) lLe cLe kLe
  have bLe := FLe.binds (ps := ["_law_place", "_law_length", "_law_stand", "_law_reached"]) fun _ _ _ _ _ _ us hl => match us, hl with | [_, _, _, _], _ => rfl
  have FRc := fun_mk (st := sRch) lRc cRc kRc
  have bRc := FRc.binds (ps := ["_law_told", "_law_length", "_law_stand"]) fun _ _ _ _ _ _ us hl => match us, hl with | [_, _, _], _ => rfl
  have FLg := fun_mk (st := sLng) lLg cLg kLg
  have bLg := FLg.binds (ps := ["_law_row_here", "_law_length", "_law_stand"]) fun _ _ _ _ _ _ us hl => match us, hl with | [_, _, _], _ => rfl
  have FL := fun_mk (st := sLaw) lL cL kL
  have bL := FL.binds (ps := ["_law_script"]) fun _ _ _ _ _ _ us hl => match us, hl with | [_], _ => rfl
  have OEB : OexC K CEB := ⟨⟨nmEB, qEB, NEB, bsEB, _, snEB, subEB, abEB, colEB, ddEB, m0EB, m1EB, m2EB, m3EB, m5EB, xEB, by rfl⟩, saEB, ebEB, tyEB, kcEB⟩
  have TEB : ErrTxt P K mg CEB fiEB cdEB ccEB "BadNumber.__init__" sErr := {
    oex := OEB
    iC := iEB
    tI := tEB
    fn := ⟨_, _, _, _, _, _, _, _, lEB⟩
    code := coEB
    file := ⟨_, vkEB, flEB, tfEB, lkEB, rfl, vkEBx, feEB⟩
    cell := ⟨_, leEB, rfl⟩
    self := mrEB
    opaque_ := opq
    up := upEB
    isVE := svEB
    top := htop
    noSup := PySem.W.mg_none_of X G nsup }
  have REB : ∀ base, ErrOk P w K mg base "BadNumber" CEB "value" okInt := fun base => by
    obtain ⟨fd, hfd, hb⟩ := err_int (w := w) (base := base) TEB rfl rfl (nscope_by (by decide +kernel)) (fun _ _ _ _ _ _ _ us hl => match us, hl with | [_, _], _ => rfl) rfl rfl rfl (by decide) (by decide) (by decide) nbEB
    exact ⟨OEB, ⟨gaEB, ggEB, ebEB, hdEB⟩, PySem.W.mg_of X G aEB, nbEB, PySem.W.exm_ref ebEB hdEB tyEB ssEB, ⟨_, fd, iEB, tEB, hfd, hb⟩⟩
  have OEP : OexC K CEP := ⟨⟨nmEP, qEP, NEP, bsEP, _, snEP, subEP, abEP, colEP, ddEP, m0EP, m1EP, m2EP, m3EP, m5EP, xEP, by rfl⟩, saEP, ebEP, tyEP, kcEP⟩
  have TEP : ErrTxt P K mg CEP fiEP cdEP ccEP "NoPlace.__init__" sEP := {
    oex := OEP
    iC := iEP
    tI := tEP
    fn := ⟨_, _, _, _, _, _, _, _, lEP⟩
    code := coEP
    file := ⟨_, vkEP, flEP, tfEP, lkEP, rfl, vkEPx, feEP⟩
    cell := ⟨_, leEP, rfl⟩
    self := mrEP
    opaque_ := opq
    up := upEP
    isVE := svEP
    top := htop
    noSup := PySem.W.mg_none_of X G nsup }
  have REP : ∀ base, ErrOk P w K mg base "NoPlace" CEP "place" okInt := fun base => by
    obtain ⟨fd, hfd, hb⟩ := err_int (w := w) (base := base) TEP rfl rfl (nscope_by (by decide +kernel)) (fun _ _ _ _ _ _ _ us hl => match us, hl with | [_, _], _ => rfl) rfl rfl rfl (by decide) (by decide) (by decide) nbEP
    exact ⟨OEP, ⟨gaEP, ggEP, ebEP, hdEP⟩, PySem.W.mg_of X G aEP, nbEP, PySem.W.exm_ref ebEP hdEP tyEP ssEP, ⟨_, fd, iEP, tEP, hfd, hb⟩⟩
  exact ⟨PySem.W.fnOf "law" "law" (defArgs sLaw) (defBody sLaw) (defScope sLaw) .none kVL dcL pmL anL cdL ctL, fun s v => .of_eq rfl, fun base _ _ => by
    have clL : Cls K CLadder := ⟨dPG, dHD, dPO, dSA⟩
    have clT : Cls K CTrial := ⟨tPG, tHD, tPO, tSA⟩
    have bt : BoxTxt K mg := ⟨PySem.W.mg_none_of X G n_len, PySem.W.mg_none_of X G n_int⟩
    have DT : LadTxt K mg CLadder fK fF fJ := { lad := PySem.W.mg_of X G aCL, chk := PySem.W.mg_of X G aK, reach := PySem.W.mg_of X G aF, join := PySem.W.mg_of X G aJ, isi := PySem.W.mg_none_of X G n_isinstance, cl := clL, nL := dF0, nP := dF1, ha := dHA, hn := xhn, ht := xht, hm := dHM }
    have TT : TriTxt K mg CTrial := { tri := PySem.W.mg_of X G aCT, isi := PySem.W.mg_none_of X G n_isinstance, b_len := PySem.W.mg_none_of X G n_len, cl := clT, nP := tF0, nH := tF1, nR := tF2, ha := tHA, hn := xhn, ht := xht, hm := tHM }
    have GR := ok_reach (P := P) (w := w) (base := base) FF (REB base) FK bK ⟨PySem.W.mg_of X G aK, PySem.W.mg_of X G aF, PySem.W.mg_of X G g_isqrt⟩
    have GI0 := ok_init (P := P) (w := w) (base := base) FMi (REB base) FK bK DT
    have GIL1 : FnR P w K mg base (L2.CX P w) 5 fMi (spInit1 CEB CLadder) := Own.fnr_of GI0 bMi0 vdMi0
    have MKL : Mk K CLadder fMi := ⟨dMK, aMi, iMi, dKP⟩
    have GC0 := ok_callL (P := P) (w := w) (base := base) FMc GR FF bF1 DT
    have GCL := Own.fnr0 GC0 bMc1
    have CO : StX.CallO K CLadder fMc := ⟨aMc, iMc, cFI⟩
    have MKT : Mk K CTrial fTi := ⟨tMK, aTi, iTi, tKP⟩
    have GTi := Own.fnr0 (ok_tini (P := P) (w := w) (base := base) FTi TT) bTi
    have GTl := Own.fnr0 (ok_tln (P := P) (w := w) (base := base) FTl MKT GTi CO GCL TT) bTl
    have GTa := Own.fnr0 (ok_agr (P := P) (w := w) (base := base) FTa (REP base) TT) bTa
    have GTv := Own.fnr0 (ok_tnv (P := P) (w := w) (base := base) FTv MKT GTi TT) bTv
    have GTe := Own.fnr0 (ok_teq (P := P) (w := w) (base := base) FTe TT tKI) bTe
    have GTs := Own.fnr0 (ok_tst (P := P) (w := w) (base := base) FTs TT) bTs
    have MA : Meth K CTrial "agrees" fTa := ⟨aTa, iTa, kTa⟩
    have CR : ClX.CRead K CTrial (.type "type") := ⟨rdT, gaT⟩
    have CM : ClX.CMet K CTrial (.type "type") "leant" pTl fTl := ⟨aTl, ⟨_, rTl⟩, fnP⟩
    have LT : LTxt mg CLadder CTrial fT fSy := { lad := PySem.W.mg_of X G aCL, tri := PySem.W.mg_of X G aCT, take := PySem.W.mg_of X G aT, says := PySem.W.mg_of X G aSy, b_str := PySem.W.mg_none_of X G n_str }
    have GB : FnOk P w K mg base CX0 1 fB _ ["_law_script"] (spBox K) := ok_box FB bt
    have GT : FnOk P w K mg base CX0 1 fT _ ["_law_box_here", "_law_size"] spTake := ok_take FT bt
    have GSy : FnOk P w K mg base CX0 1 fSy _ ["_law_told", "_law_due"] spSays := ok_says FSy
    have GRc : FnOk P w K mg base CX0 1 fRc _ ["_law_told", "_law_length", "_law_stand"] spRch := ok_rch FRc
    have GLe := ok_lea (P := P) (w := w) (base := base) FLe (REB base) MKL GIL1 CR CM GTl LT
    exact ok_law FL { box := PySem.W.mg_of X G aB, take := PySem.W.mg_of X G aT, row := PySem.W.mg_of X G aRo, says := PySem.W.mg_of X G aSy, who := PySem.W.mg_of X G aWh, agr := PySem.W.mg_of X G aAg, lng := PySem.W.mg_of X G aLg, tri := PySem.W.mg_of X G aCT, b_range := PySem.W.mg_none_of X G n_range, b_list := PySem.W.mg_none_of X G n_list, b_len := PySem.W.mg_none_of X G n_len }
      GB FB bB GT FT bT (ok_row FRo GT FT bT LT) FRo bRo GSy FSy bSy (ok_who FWh GSy FSy bSy LT GTs aTs iTs TT) FWh bWh (ok_agL FAg (REP base) GTa MA clT) FAg bAg
      (ok_lng FLg GSy FSy bSy GRc FRc bRc GLe FLe bLe MKL GIL1 CR CM GTl TT { rch := PySem.W.mg_of X G aRc, says := PySem.W.mg_of X G aSy, lea := PySem.W.mg_of X G aLe, lad := PySem.W.mg_of X G aCL, tri := PySem.W.mg_of X G aCT }) FLg bLg
      MKT GTi GTe aTe iTe tNE tHM tSI GTv aTv iTv⟩
theorem walk {l : PySem.W.OpenLaw} {q : Program} {loose : List Str} {XP : (Str → Option Value) → Heap → Prop} {YP : World → Heap → Prop} {d : DefRec} {K : Params → PySem.W.Frag} (hn : l.most = some 63) (hdf : d.params.defaults = [])
    (hY : ∀ (w : World) (h : Heap), YP w h → (K w.params).In h)
    (F : ∀ (w : World) (mg : Str → Option Value) (fa : Addr) (h : Heap), (K w.params).In h → h.Ns mainGlobals mg → mg d.name = some (.ref fa) →
      ∃ fd : FuncData, (∀ (s : Shared) (u : Value), BindsTo s fd ⟨[u], []⟩ [("_law_script", u)]) ∧ ∀ base : Heap, (K w.params).In base → base.Ns mainGlobals mg → FnOk l.prog w (K w.params) mg base CX0 10 fa fd ["_law_script"] (spLaw (K w.params))) :
    PySem.W.WalkO q loose XP YP l.row.toRowW d [] (fun f vs => PySem.call f vs) :=
  L2.walk_of (n := 63) (k := 10) (x := "_law_script") (CX := fun _ => CX0) (sp := fun w => spLaw (K w.params)) hn (by decide) hdf ⟨rfl, by decide, by decide⟩ hY F (fun _ _ a ns hl _ hS => ⟨a, ns, rfl, hS, hl, fun _ => rfl⟩) fun _ _ _ _ _ z => z
end Law

open PySem PySem.W PyProof.Rows
set_option maxRecDepth 100000 in
set_option maxHeartbeats 0 in
theorem PySem.Challenge.cw_rungbounds_k14_trials_as_values_holds : PySem.Challenge.rw_rungbounds_k14_trials_as_values.Holds := by
  w_on; o_law; k_head; (case hw => w_witness2)
  k_fill
  refine Law.walk (l := PySem.Challenge.rw_rungbounds_k14_trials_as_values) rfl rfl (fun w h Y => PySem.W.kIn_of Y) ?F
  case F =>
    intro w mg fa h KX G hmg
    refine' Law.all_mk KX G hmg (by rfl) ?aCL ?aCT ?aJ ?aK ?lK ?cK ?kK ?aF ?lF ?cF ?kF ?dF ?aMi ?lMi ?cMi ?kMi ?iMi ?dMi ?aMc ?lMc ?cMc ?kMc ?iMc ?dMc ?aTi ?lTi ?cTi ?kTi ?iTi ?aTl ?rTl ?lTl ?cTl ?kTl ?iTl ?aTa ?lTa ?cTa ?kTa ?iTa ?aTv ?lTv ?cTv ?kTv ?iTv ?aTe ?lTe ?cTe ?kTe ?iTe ?aTs ?lTs ?cTs ?kTs ?iTs ?aB ?lB ?cB ?kB ?aT ?lT ?cT ?kT ?aSy ?lSy ?cSy ?kSy ?aRo ?lRo ?cRo ?kRo ?aWh ?lWh ?cWh ?kWh ?aAg ?lAg ?cAg ?kAg ?aLe ?lLe ?cLe ?kLe ?aRc ?lRc ?cRc ?kRc ?aLg ?lLg ?cLg ?kLg ?aL ?lL ?cL ?kL ?opq ?nsup ?aEB ?xEB ?saEB ?gaEB ?ggEB ?nbEB ?iEB ?tEB ?lEB ?coEB ?lkEB ?vkEBx ?feEB ?leEB ?mrEB ?upEB ?svEB ?kcEB ?ebEB ?tyEB ?hdEB ?ssEB ?aEP ?xEP ?saEP ?gaEP ?ggEP ?nbEP ?iEP ?tEP ?lEP ?coEP ?lkEP ?vkEPx ?feEP ?leEP ?mrEP ?upEP ?svEP ?kcEP ?ebEP ?tyEP ?hdEP ?ssEP ?n_len ?n_int ?n_isinstance ?n_range ?n_list ?n_str ?g_isqrt ?xhn ?xht ?dPG ?dHD ?dPO ?dSA ?dMK ?dKP ?dHA ?dHM ?dF0 ?dF1 ?tPG ?tHD ?tPO ?tSA ?tMK ?tKP ?tHA ?tHM ?tF0 ?tF1 ?tF2 ?cFI ?fnP ?tNE ?tSI ?tKI ?rdT ?gaT
    (case aCL => k_is)
    (case aCT => k_is)
    (case aJ => k_is)
    (case aK => k_is)
    (case lK => k_is)
    (case cK => k_is)
    (case kK => k_is)
    (case aF => k_is)
    (case lF => k_is)
    (case cF => k_is)
    (case kF => k_is)
    (case dF => k_is)
    (case aMi => k_is)
    (case lMi => k_is)
    (case cMi => k_is)
    (case kMi => k_is)
    (case iMi => k_is)
    (case dMi => k_is)
    (case aMc => k_is)
    (case lMc => k_is)
    (case cMc => k_is)
    (case kMc => k_is)
    (case iMc => k_is)
    (case dMc => k_is)
    (case aTi => k_is)
    (case lTi => k_is)
    (case cTi => k_is)
    (case kTi => k_is)
    (case iTi => k_is)
    (case aTl => k_is)
    (case rTl => k_is)
    (case lTl => k_is)
    (case cTl => k_is)
    (case kTl => k_is)
    (case iTl => k_is)
    (case aTa => k_is)
    (case lTa => k_is)
    (case cTa => k_is)
    (case kTa => k_is)
    (case iTa => k_is)
    (case aTv => k_is)
    (case lTv => k_is)
    (case cTv => k_is)
    (case kTv => k_is)
    (case iTv => k_is)
    (case aTe => k_is)
    (case lTe => k_is)
    (case cTe => k_is)
    (case kTe => k_is)
    (case iTe => k_is)
    (case aTs => k_is)
    (case lTs => k_is)
    (case cTs => k_is)
    (case kTs => k_is)
    (case iTs => k_is)
    (case aB => k_is)
    (case lB => k_is)
    (case cB => k_is)
    (case kB => k_is)
    (case aT => k_is)
    (case lT => k_is)
    (case cT => k_is)
    (case kT => k_is)
    (case aSy => k_is)
    (case lSy => k_is)
    (case cSy => k_is)
    (case kSy => k_is)
    (case aRo => k_is)
    (case lRo => k_is)
    (case cRo => k_is)
    (case kRo => k_is)
    (case aWh => k_is)
    (case lWh => k_is)
    (case cWh => k_is)
    (case kWh => k_is)
    (case aAg => k_is)
    (case lAg => k_is)
    (case cAg => k_is)
    (case kAg => k_is)
    (case aLe => k_is)
    (case lLe => k_is)
    (case cLe => k_is)
    (case kLe => k_is)
    (case aRc => k_is)
    (case lRc => k_is)
    (case cRc => k_is)
    (case kRc => k_is)
    (case aLg => k_is)
    (case lLg => k_is)
    (case cLg => k_is)
    (case kLg => k_is)
    (case aL => k_is)
    (case lL => k_is)
    (case cL => k_is)
    (case kL => k_is)
    (case opq => k_is)
    (case nsup => k_is)
    (case aEB => k_is)
    (case xEB => k_is)
    (case saEB => k_is)
    (case gaEB => k_is)
    (case ggEB => k_is)
    (case nbEB => k_is)
    (case iEB => k_is)
    (case tEB => k_is)
    (case lEB => k_is)
    (case coEB => k_is)
    (case lkEB => k_is)
    (case vkEBx => rfl)
    (case feEB => decide +kernel)
    (case leEB => k_is)
    (case mrEB => k_is)
    (case upEB => first | ks_is | rfl)
    (case svEB => k_is)
    (case kcEB => k_is)
    (case ebEB => k_is)
    (case tyEB => k_is)
    (case hdEB => k_is)
    (case ssEB => first | rfl | k_is)
    (case aEP => k_is)
    (case xEP => k_is)
    (case saEP => k_is)
    (case gaEP => k_is)
    (case ggEP => k_is)
    (case nbEP => k_is)
    (case iEP => k_is)
    (case tEP => k_is)
    (case lEP => k_is)
    (case coEP => k_is)
    (case lkEP => k_is)
    (case vkEPx => rfl)
    (case feEP => decide +kernel)
    (case leEP => k_is)
    (case mrEP => k_is)
    (case upEP => first | ks_is | rfl)
    (case svEP => k_is)
    (case kcEP => k_is)
    (case ebEP => k_is)
    (case tyEP => k_is)
    (case hdEP => k_is)
    (case ssEP => first | rfl | k_is)
    (case n_len => k_is)
    (case n_int => k_is)
    (case n_isinstance => k_is)
    (case n_range => k_is)
    (case n_list => k_is)
    (case n_str => k_is)
    (case g_isqrt => k_is)
    (case xhn => first | k_is | rfl)
    (case xht => first | k_is | rfl)
    (case dPG => first | k_is | rfl | kernel_rfl)
    (case dHD => first | k_is | rfl | kernel_rfl)
    (case dPO => first | k_is | rfl | kernel_rfl)
    (case dSA => k_is)
    (case dMK => first | k_is | rfl | kernel_rfl)
    (case dKP => k_is)
    (case dHA => k_is)
    (case dHM => k_is)
    (case dF0 => k_is)
    (case dF1 => k_is)
    (case tPG => first | k_is | rfl | kernel_rfl)
    (case tHD => first | k_is | rfl | kernel_rfl)
    (case tPO => first | k_is | rfl | kernel_rfl)
    (case tSA => k_is)
    (case tMK => first | k_is | rfl | kernel_rfl)
    (case tKP => k_is)
    (case tHA => k_is)
    (case tHM => k_is)
    (case tF0 => k_is)
    (case tF1 => k_is)
    (case tF2 => k_is)
    (case cFI => first | rfl | k_is | kernel_rfl)
    (case fnP => first | rfl | k_is | kernel_rfl)
    (case tNE => k_is)
    (case tSI => first | rfl | k_is)
    (case tKI => first | k_is | rfl | kernel_rfl)
    (case rdT => k_is)
    (case gaT => k_is)
