import PyProof.Rows.All
import Wide.All
import OpenK.AllK
import Wide.FinOn
import HandS.ForMost
import HandS.Wide
import HandS.ExcInit
import HandS.FStr
import HandS.Nested
import HandS.TryOnly
import HandS.ExcField
import HandS.WordsExc
import HandS.IsInst
import HandS.Codes
import HandS.Gcd
import HandS.Star
import HandS.ClsMeth
import KE.KTupSum
import HandS.Defaults
import HandS.ExcIs
import KE.KExcSuper
import KE.KMathG
import HandS.FStrTup
import HandS.OwnEq
import HandS.TupLe
import HandS.DeepEq
import HandS.MakeKw
import HandS.Walk
import HandS.WordsDict
import HandS.More
import HandS.Deep
import HandS.Style
import HandS.Flow
import HandS.CallSlots
import KE.GoesRaise
import PyProof.ReprReads
import PySem.Challenge.RW_rungbounds_k06_join_of_named_ladders
set_option Elab.async false
set_option linter.all false
set_option maxRecDepth 100000
set_option maxHeartbeats 4000000
/-! Errors whose making calls super().__init__ on a text, then keeps a field. -/
namespace Sup
open PySem PySem.Spec PyProof.Rows L2 NdefX

abbrev mwrap (x : Addr) : Obj := PySem.W.kxs_mw "ValueError.__init__" x

/-- the wrapper of ValueError.__init__ bound to a, called -/
theorem call_wrap {prog : Program} {w : World} {A : Around} {E : Value → Shared → Prop} {h : Heap} {g : Array GenState} {d : Drawn} {t : Nat} {os : OsState}
    {nm q : Str} {C N : Addr} {bs bm : List Value} {hd : Bool} {sn : List Str} {sub : List Value} {ab : Bool} {col : Option Bool} {dd : Option Addr} {k0 k1 k2 k3 k5 : Option Value}
    {u a t0 : Addr} {us : List Value} {Q : Value → Shared → Prop}
    (hC : h.get? C = some (excClassObj nm q C N bs bm hd sn sub ab col dd k0 k1 k2 k3 k5 "ValueError.__new__"))
    (ha : h.get? a = some (PySem.HandSPX.excO C t0)) (hu : h.get? u = some (mwrap a)) (hl : us.length ≤ sizeLine)
    (hq : ∀ h' t1, (∀ b o, b ≠ a → h.get? b = some o → h'.get? b = some o) → h'.get? a = some (PySem.HandSPX.excO C t1) → Q .none ⟨h', g, d, t, os⟩) :
    wpAny (model prog w) A (call (.ref u) us) Q E ⟨h, g, d, t, os⟩ := by
  have FB := F.excBase_ValueError
  refine wpAny_call (codeAny_of_tree ?_)
  show wpAny _ A.in1 (callAny (.ref u) ⟨us, []⟩) _ _ _
  unfold callAny
  refine wpAny_bind (wpAny_load hu ?_)
  have k1' : (Value.type "method-wrapper" == Value.type "method" || Value.type "method-wrapper" == Value.type "builtin_function_or_method" || Value.type "method-wrapper" == Value.type "method-wrapper") = true := by decide
  simp only [mwrap, PySem.W.kxs_mw, k1', if_true]
  refine PySem.W.KFB.if_so (by decide) ?_
  refine wpAny_bind (PySem.W.check_bound_init FB.toExcCallFacts hC ha rfl ?_)
  refine wpAny_bind (wpAny_pure (wpAny_pure ?_))
  refine ⟨plainId_quiet FB.init.plain _, codeAny_builtin FB.initEntry ?_⟩
  exact PySem.W.exc_init_tree (cls := .ref C) (t0 := t0) (dv := none) (c2 := .none) (c3 := .none) (b4 := .bool false) ha hl fun h' k e _ => hq h' _ k e

/-- what the written part says of an own error's class at C and its __init__ at f -/
structure ErrTxt (P : Program) (K : PySem.W.Frag) (mg : Str → Option Value) (C f cda cc : Addr) (qual : Str) (st : Stmt) : Prop where
  oex : OexC K C
  iC : PySem.W.findIn K (.ref C) "__init__" = some (some (.ref f))
  tI : PySem.W.typeIn K (.ref f) = some (.type "function")
  fn : ∃ (oc : Value) (od an : Option Addr) (kV doc pm ct : Value) (osl : Array (Option Value)),
    K.lookup f = some ⟨oc, od, .func (PySem.W.fnX "__init__" qual (defArgs st) (defBody st) (defScope st) [("__class__", cc)] .none kV doc pm an (.ref cda) ct), osl⟩
  code : PySem.W.codeIn K (.ref cda) qual = true
  file : ∃ (o : Obj) (vs : Array Value) (fl : Str) (tf : Tok), K.lookup cda = some o ∧ o.data = .fields vs ∧ vs[2]? = some (.str fl tf) ∧ ((P.main.file : Str) == fl) = true
  cell : ∃ (o : Obj), K.lookup cc = some o ∧ o.data = .cell (some (.ref C))
  self : PySem.W.mroIn K C (.ref C) = some true
  opaque_ : PySem.W.nsIn K cStatics "thirdparty.any" = some none
  up : PySem.W.ks_superIn K C C "__init__" = some (some (.builtin "ValueError.__init__"))
  isVE : PySem.W.subIn K (.ref C) (.type "ValueError") = some true
  top : (P.main.scope.names.lookup ("super" : Str)).isSome = false
  noSup : mg "super" = none

section
variable {X : Cx} {pins : List (Addr × Obj)} {σ : L2.St} {H : Hp} {s : Shared} {a C f cda cc : Addr} {qual : Str} {st : Stmt} {e : Expr} {te : TE} {body : List Stmt} {p0 p1 p2 p3 : Pos} {Q : Hp → Prop} {scope : Scope} {ar : Arg}
theorem super_init (T : ErrTxt X.prog X.K X.mg C f cda cc qual st) (I : Inv X pins σ H s)
    (henv : X.env = PySem.W.envX qual scope X.env.locals f (.ref cda) [("__class__", cc)])
    (hks : scope.names.lookup ("super" : Str) = some .globalImplicit) (hkc : scope.names.lookup ("__class__" : Str) = some .free)
    (hks' : scope.names.lookup ar.arg = some .local)
    (har : ((defArgs st).posonlyargs ++ (defArgs st).args).head? = some ar)
    (h0 : X.N[0]? = some ar.arg) (hs0 : σ[0]? = some (some (V.ref a))) (ha : H a = some (exo a C none))
    (he : PE X e te) (hq : te σ H fun x H1 => [x].length ≤ 1 ∧ H1 a = some (exo a C none) ∧ Q H1) {pl : Sem Bool}
    (hform : eval (.Call (.Attribute (.Call (.Name "super" p0) [] [] p1) "__init__" p2) [e] [] p3) X.env = (do
      let ov ← attributeBase (.Call (.Name "super" p0) [] [] p1) "__init__" X.env (eval (.Call (.Name "super" p0) [] [] p1) X.env)
      standAt p2.atName
      let (g, first) ← holding [ov] (getMethod ov "__init__" pl)
      callWith p3 g first (backTo p3 (starEach [e] X.env)) []) := by rfl)
    (hse : starEach [e] X.env = (false, eval e X.env) :: starEach [] X.env := by rfl) :
    _root_.PySem.wpAt (model X.prog X.w) X.A (.func body X.env) (eval (.Call (.Attribute (.Call (.Name "super" p0) [] [] p1) "__init__" p2) [e] [] p3) X.env)
      (fun _ s' => ∃ H', Inv X pins σ H' s' ∧ Q H') X.xe s := by
  have kS : X.env.kindOf "super" = some .globalImplicit := by rw [henv]; exact hks
  have kC : X.env.kindOf "__class__" = some .free := by rw [henv]; exact hkc
  have kA : X.env.kindOf ar.arg = some .local := by rw [henv]; exact hks'
  have cL : X.env.cells.lookup ("__class__" : Str) = some cc := by rw [henv]; rfl
  have fL : X.env.func = some f := by rw [henv]
  have dL : X.env.code = .ref cda := by rw [henv]
  obtain ⟨nm, q, N, bs, bm, sn, sub, ab, col, dd, k0, k1, k2, k3, k5, hC, hbm⟩ := T.oex.cls
  have hcl : PySem.W.clsIn X.K C = some { name := nm, bases := bs, mro := .ref C :: bm, ns := N, qualname := q, hasDict := true, slotNames := sn, subclasses := sub, abstract := ab, collection := col, hasDel := false } := by
    unfold PySem.W.clsIn; rw [hC] <;> rfl
  obtain ⟨oc, od, an, kV, doc, pm, ct, osl, lf⟩ := T.fn
  obtain ⟨oF, vs, fl, tf, lc, hvf, hv2, hfl⟩ := T.file
  obtain ⟨oc2, lcell, dcell⟩ := T.cell
  obtain ⟨t1, hga⟩ := exo_at I.hok ha
  refine ks_wpAt_MethodCall (o := .Call (.Name "super" p0) [] [] p1) (name := "__init__") (apos := p2) (pos := p3) (args := [e]) (env := X.env) ?_ hform
  refine ks_wpAt_super_base (env := X.env) (cc := cda) (ar := ar) kS kC (by decide) fL (I.kIn _ _ lf) rfl har dL (I.kIn _ _ lc) hvf hv2 hfl T.top ?_
  -- the name super
  obtain ⟨mb, hb1, hb2⟩ := I.mod.blt
  refine PySem.W.ks_loadName_global I.ok.kind kS (Calls.loadGlobal_builtin (v := .type "super") (by rw [I.ok.glob]; exact I.mod.glob.keeps I.bk) T.noSup
    (by rw [I.ok.blt]; exact hb1.keeps I.bk) ((hb2 _ (by decide)).trans (by decide +kernel)) ⟨rfl, ?_⟩)
  -- the cell __class__
  refine wpAny_loadName_free I.ok.kind kC cL (v := .ref C) ⟨_, I.kIn _ _ lcell, dcell⟩ ?_
  -- self
  obtain ⟨m, hn, hlm⟩ := I.loc
  obtain ⟨u, ru, hlook⟩ := hlm 0 ar.arg (V.ref a) h0 hs0 (.inl (by rw [henv]; exact hks'))
  obtain rfl : u = Value.ref a := ru
  have hma : m ar.arg = some (Value.ref a) := by
    rcases hlook with ⟨_, z⟩ | ⟨z, _⟩
    · exact z
    · rw [kA] at z
      rcases z with z | z <;> cases z
  refine wpAny_loadName_local I.ok.kind kA hn hma ?_
  have gC := I.kIn _ _ hC
  refine ks_wpAny_isType_cls gC rfl ⟨rfl, ?_⟩
  obtain ⟨hp, g, d, t, os⟩ := s
  refine ks_wpAny_call_super gC rfl hga rfl (fun c z => by cases z) (PySem.W.looks_mroIn I.kIn T.self) fun h1 e1 k1 => ?_
  have J1 : Inv X pins σ H ⟨h1, g, d, t, os⟩ := I.kept (t' := t) k1
  have I1 : PySem.W.InstAt h1 a (PySem.HandSPX.excO C t1) C none := ⟨k1 _ _ hga, rfl, rfl, trivial⟩
  have hup := T.up
  unfold PySem.W.ks_superIn at hup
  rw [hcl] at hup
  refine PySem.W.kxs_getMethod PySem.W.kxs_ValueError e1 (PySem.W.looks_opaque J1.kIn T.opaque_)
    (fun A' Q' E' s' k q => wpAny_bind ((PySem.W.looks_clsIn J1.kIn hcl) A' _ E' s' k (wpAny_pure q))) rfl J1.kIn hup
    (I1.type.andThen (PySem.W.looks_subIn J1.kIn T.isVE)) (PySem.W.ks_ne J1.kIn I1 hcl) (by decide) ?_
  have gu : (h1.push (mwrap a)).get? h1.objs.size = some (mwrap a) := Heap.get?_push_at rfl rfl
  have J2 : Inv X pins σ H ⟨h1.push (mwrap a), g, d, t + 1, os⟩ := J1.kept (t' := t + 1) fun b o z => Heap.get?_push_of_some _ z
  have J3 : Inv X ((h1.objs.size, mwrap a) :: pins) σ H ⟨h1.push (mwrap a), g, d, t + 1, os⟩ := J2.pins_of fun p hp => by
    rcases List.mem_cons.mp hp with rfl | hp
    · refine ⟨gu, J1.hok.fresh (Nat.le_refl _), fun z => ?_, J1.nofs (Nat.le_refl _), fun v z => by cases z⟩
      have z' : h1.objs.size = X.env.locals := z
      have y := J1.lt
      rw [← z'] at y
      exact absurd y (Nat.lt_irrefl _)
    · exact J2.pin p (List.mem_append_right _ hp)
  show wpAny _ _ (callWith p3 (.ref h1.objs.size) [] (backTo p3 (starEach [e] X.env)) []) _ _ _
  have hq' : tCons te tNil σ H fun xs H1 => xs.length ≤ 1 ∧ H1 a = some (exo a C none) ∧ Q H1 := hq
  rw [hse]
  refine PySem.W.kxs_callWith (i := "ValueError.__init__") (x := a) (by rfl) ?_
  refine Calls.evalArgs_plain ?_
  have pr := (pa_cons he pa_nil hse).run p3 _ _ σ H _ J3 hq'
  rw [hse] at pr
  refine thn pr fun us s2 hh => ?_
  obtain ⟨xs, H2, I2, r2, hx1, ha2, hQ2⟩ := hh
  have gw := (I2.pin (h1.objs.size, mwrap a) (List.mem_append_right _ List.mem_cons_self)).1
  refine ⟨gw, ?_⟩
  obtain ⟨t2, hga2⟩ := exo_at I2.hok ha2
  obtain ⟨hp2, g2, d2, tk2, os2⟩ := s2
  have hul : us.length ≤ sizeLine := by
    rw [← r2.length, sizeLine_eq]
    omega
  refine call_wrap (us := us) (I2.kIn _ _ hC) hga2 gw hul fun h3 t3 k3' e3 => ?_
  have J4 := I2.write (t' := tk2) (x := a) (e := a) (o := exo a C none) (by rw [ha2]; exact True.intro) (.inl rfl) k3' ⟨_, e3⟩ (exo_ok e3)
  have eu : upd H2 a (exo a C none) = H2 := by
    funext b
    by_cases hb : b = a
    · rw [hb, upd_same, ha2]
    · exact upd_ne hb
  rw [eu] at J4
  exact ⟨H2, J4.pins_of fun p hp => J4.pin p (List.mem_append_right _ (List.mem_cons_of_mem _ hp)), hQ2⟩
end

/-! ### the making of an own error, as a promise -/
/-- at a an exception of the class at C is being made; the argument v goes to the field fl -/
def spErr (C : Addr) (fl : Str) (ok : V → Prop) : Sp := fun vs H Q _ => ∃ (a : Addr) (v : V), vs = [.ref a, v] ∧ H a = some (exo a C none) ∧ ok v ∧
  ∀ dx, H dx = none → dx ≠ a → Q .non (upd (upd H dx (exd dx [(fl, v)])) a (exo a C (some dx)))

def okInt : V → Prop := fun v => ∃ i : Int, v = .int i ∧ i.natAbs.log2 < 1920
def okTxt : V → Prop := fun v => ∃ y : Str, v = .str y ∧ (reprText y).length ≤ 10000

section
variable {P : Program} {w : World} {K : PySem.W.Frag} {mg : Str → Option Value} {base : Heap} {C f cda cc : Addr} {qual pn : Str} {st : Stmt} {N : List Str}

abbrev supNF (qual : Str) (st : Stmt) (cda cc : Addr) : NF := ⟨"__init__", qual, defArgs st, defBody st, defScope st, [("__class__", cc)], cda⟩

/-- a def that closes over __class__ alone, entered: its body runs in the frame of NdefX -/
theorem sup_fn {CX : CXT} {sp : Sp} {k : Nat} {ps : List Str} (T : ErrTxt P K mg C f cda cc qual st) (S : NScope N ps ["__class__"] (defScope st))
    (len : ∀ vs H Q E, sp vs H Q E → vs.length = ps.length)
    (hb : ∀ (oc : Value) (od an : Option Addr) (kV doc pm ct : Value) (us : List Value), us.length = ps.length →
      bindArgs (PySem.W.fnX "__init__" qual (defArgs st) (defBody st) (defScope st) [("__class__", cc)] .none kV doc pm an (.ref cda) ct) ⟨us, []⟩ = pure (ps.zip us))
    (hbody : ∀ (A : Around) (outer : List Env) (s : Shared) (H : Hp) (vs : List V) (Q : VK) (E : XK), sp vs H Q E → Room k (ncx CX P w K mg base N (supNF qual st cda cc) f A outer s H E).A →
      ∀ s1, L2.Inv (ncx CX P w K mg base N (supNF qual st cda cc) f A outer s H E) [] (startF N vs [none]) H s1 →
        _root_.PySem.wpAt (model P w) (ncx CX P w K mg base N (supNF qual st cda cc) f A outer s H E).A (.func (defBody st) (ncx CX P w K mg base N (supNF qual st cda cc) f A outer s H E).env)
          (execs (defBody st) (ncx CX P w K mg base N (supNF qual st cda cc) f A outer s H E).env)
          (SP (ncx CX P w K mg base N (supNF qual st cda cc) f A outer s H E) [] { nx := fun _ H' => Q .non H', rt := Q })
          (ncx CX P w K mg base N (supNF qual st cda cc) f A outer s H E).xe s1) :
    ∃ fd, FnOk P w K mg base CX (k + 1) f fd ps sp ∧ Binds K fd ps [] := by
  obtain ⟨oc, od, an, kV, doc, pm, ct, osl, lf⟩ := T.fn
  obtain ⟨oc2, lcell, dcell⟩ := T.cell
  refine ⟨_, ⟨len, fun A outer s H args us vs Q E hr e0 hbd r hsp => ?_⟩, Binds.all (hb oc od an kV doc pm ct)⟩
  have hl := len _ _ _ _ hsp
  have KX : K.In s.heap := e0.mod.kin.keeps fun b o e => (e0.bs b o e).1
  have lim : s.heap.NoLimit := e0.mod.nolimit.keeps fun b o e => (e0.bs b o e).1
  have hH : H cc = none := (e0.bs cc oc2 (e0.mod.kin _ _ lcell)).2
  have CA : CellsAt [("__class__", cc)] ["__class__"] [none] s.heap H := {
    len := rfl
    all := fun y c h => by
      have h' : (if y = ("__class__" : Str) then some cc else none) = some c := by
        by_cases e : y = ("__class__" : Str)
        · subst e; exact h
        · have q : (y == ("__class__" : Str)) = false := by simpa using e
          have z : List.lookup y [(("__class__" : Str), cc)] = none := by simp [List.lookup, q]
          rw [z] at h; cases h
      split at h'
      · cases h'
        exact ⟨hH, some (.ref C), oc2, KX _ _ lcell, dcell⟩
      · cases h'
    inj := fun x y c h1 h2 => by
      have key : ∀ z : Str, List.lookup z [(("__class__" : Str), cc)] = some c → z = "__class__" := fun z hz => by
        by_cases e : z = ("__class__" : Str)
        · exact e
        · have q : (z == ("__class__" : Str)) = false := by simpa using e
          have w : List.lookup z [(("__class__" : Str), cc)] = none := by simp [List.lookup, q]
          rw [w] at hz; cases hz
      exact (key x h1).trans (key y h2).symm
    has := fun i y h => by
      match i, h with
      | 0, h =>
        have e : ("__class__" : Str) = y := Option.some.inj h
        subst e
        exact ⟨cc, by simp [List.lookup], fun v z => by cases z⟩
      | i + 1, h => cases h }
  refine ks_codeAny_call_defAt (binds := ps.zip us) hr.depth (KX _ _ lf) rfl lim (PySem.W.codeRec_of KX T.code) rfl hbd S.nocell (fun ⟨n, _⟩ hy => S.par n (List.of_mem_zip hy).1) (fun h1 hns kp => ?_) S.co S.gen S.kind
  have I : L2.Inv (ncx CX P w K mg base N (supNF qual st cda cc) f A outer s H E) [] (startF N vs [none]) H { s with heap := h1, toks := s.toks + (ps.zip us).length } :=
    inv_startN S hr.hd e0 hl r CA hns kp
  refine _root_.PySem.wpAt_mono (hbody A outer s H vs Q E hsp (hr.deeper _) _ I) (fun fl s' hs => ?_) fun e s' hs => hs
  cases fl with
  | ret u =>
    obtain ⟨v, σ', H', J, rv, q⟩ := hs
    exact ⟨v, H', J.os, J.bare, J.base, J.hok, rv, q⟩
  | next =>
    obtain ⟨σ', H', J, q⟩ := hs
    exact ⟨V.non, H', J.os, J.bare, J.base, J.hok, rfl, q⟩
  | brk =>
    obtain ⟨_, _, _, q⟩ := hs
    exact False.elim q
  | cont =>
    obtain ⟨_, _, _, q⟩ := hs
    exact False.elim q
end

section
variable {P : Program} {w : World} {K : PySem.W.Frag} {mg : Str → Option Value} {base : Heap} {C f cda cc : Addr} {qual pn : Str} {st : Stmt} {N : List Str}

/-- the body: super().__init__(e), then one statement more -/
theorem two_run {X : Cx} {σ : L2.St} {H : Hp} {s : Shared} {a : Addr} {e : Expr} {te : TE} {t2 : TS} {st2 : Stmt} {body : List Stmt} {p0 p1 p2 p3 p4 : Pos} {scope : Scope} {ar : Arg} {D : Ends}
    (T : ErrTxt X.prog X.K X.mg C f cda cc qual st) (I : L2.Inv X [] σ H s)
    (henv : X.env = PySem.W.envX qual scope X.env.locals f (.ref cda) [("__class__", cc)])
    (hks : scope.names.lookup ("super" : Str) = some .globalImplicit) (hkc : scope.names.lookup ("__class__" : Str) = some .free)
    (hka : scope.names.lookup ar.arg = some .local)
    (har : ((defArgs st).posonlyargs ++ (defArgs st).args).head? = some ar)
    (h0 : X.N[0]? = some ar.arg) (hs0 : σ[0]? = some (some (V.ref a))) (ha : H a = some (exo a C none))
    (he : PE X e te) (h2 : PS X st2 t2) (hq : te σ H fun x H1 => [x].length ≤ 1 ∧ H1 a = some (exo a C none) ∧ t2 D σ H1) {pl : Sem Bool}
    (hform : eval (.Call (.Attribute (.Call (.Name "super" p0) [] [] p1) "__init__" p2) [e] [] p3) X.env = (do
      let ov ← attributeBase (.Call (.Name "super" p0) [] [] p1) "__init__" X.env (eval (.Call (.Name "super" p0) [] [] p1) X.env)
      standAt p2.atName
      let (g, first) ← holding [ov] (getMethod ov "__init__" pl)
      callWith p3 g first (backTo p3 (starEach [e] X.env)) []) := by rfl)
    (hse : starEach [e] X.env = (false, eval e X.env) :: starEach [] X.env := by rfl) (hi : interactive X.env = false := by rfl) :
    _root_.PySem.wpAt (model X.prog X.w) X.A (.func body X.env)
      (execs [.Expr (.Call (.Attribute (.Call (.Name "super" p0) [] [] p1) "__init__" p2) [e] [] p3) p4, st2] X.env) (SP X [] D) X.xe s := by
  refine ks_wpAt_execs_cons (ks_wpAt_Expr_any ?_ hi)
  refine _root_.PySem.wpAt_mono (super_init (Q := fun H1 => t2 D σ H1) T I henv hks hkc hka har h0 hs0 ha he hq hform hse) (fun v s' hh => ?_) fun _ _ z => z
  obtain ⟨H1, I1, q⟩ := hh
  exact _root_.PySem.wpAt_of_wpAny ((pss_one h2).run [] s' σ H1 D I1 q)

theorem form_of (env : Env) {p0 p1 p2 p3 q4 : Pos} {ps : List Expr} (hln : (p2.endLine == p3.line) = true) : eval (.Call (.Attribute (.Call (.Name "super" p0) [] [] p1) "__init__" p2) [.JoinedStr ps q4] [] p3) env = (do
      let ov ← attributeBase (.Call (.Name "super" p0) [] [] p1) "__init__" env (eval (.Call (.Name "super" p0) [] [] p1) env)
      standAt p2.atName
      let (g, first) ← holding [ov] (getMethod ov "__init__" (do return (← importBound (.Call (.Name "super" p0) [] [] p1) env).getD true))
      callWith p3 g first (backTo p3 (starEach [.JoinedStr ps q4] env)) []) := by
  have hp : methodCallPos true (.Call (.Name "super" p0) [] [] p1) env p2 p3 = pure p3 := by
    unfold methodCallPos
    rw [hln]
    rfl
  show (do
    let ov ← attributeBase (.Call (.Name "super" p0) [] [] p1) "__init__" env (eval (.Call (.Name "super" p0) [] [] p1) env)
    standAt p2.atName
    let (g, first) ← holding [ov] (getMethod ov "__init__" (do return (← importBound (.Call (.Name "super" p0) [] [] p1) env).getD true))
    let cp ← methodCallPos true (.Call (.Name "super" p0) [] [] p1) env p2 p3
    callWith cp g first (backTo p3 (starEach [.JoinedStr ps q4] env)) []) = _
  rw [hp]
  rfl
theorem lit_small {lit : Str} (hl : lit.length ≤ 1000) : (Str.empty ++ lit).length ≤ 1000 := by
  rw [Str.length_append]
  exact Nat.le_trans (Nat.le_of_eq (Nat.zero_add _)) hl
theorem err_int {lit : Str} {j : Nat} {q1 q2 q3 q4 p0 p1 p2 p3 p4 r1 r2 r3 r4 : Pos} {ar : Arg} (T : ErrTxt P K mg C f cda cc qual st)
    (hbd : defBody st = [.Expr (.Call (.Attribute (.Call (.Name "super" p0) [] [] p1) "__init__" p2) [.JoinedStr [.Constant (.str lit) j q1, .FormattedValue (.Name pn q2) (-1) none q3] q4] [] p3) p4,
      .Assign [.Attribute (.Name "self" r1) pn r2] (.Name pn r3) r4]) (hln : (p2.endLine == p3.line) = true)
    (S : NScope ["self", pn, "__class__"] ["self", pn] ["__class__"] (defScope st))
    (hb : ∀ (oc : Value) (od an : Option Addr) (kV doc pm ct : Value) (us : List Value), us.length = 2 →
      bindArgs (PySem.W.fnX "__init__" qual (defArgs st) (defBody st) (defScope st) [("__class__", cc)] .none kV doc pm an (.ref cda) ct) ⟨us, []⟩ = pure ((["self", pn] : List Str).zip us))
    (hks : (defScope st).names.lookup ("super" : Str) = some .globalImplicit)
    (har : ((defArgs st).posonlyargs ++ (defArgs st).args).head? = some ar) (har2 : ar.arg = "self")
    (hd1 : (pn == ("__debug__" : Str)) = false) (hd2 : (pn == ("__classdict__" : Str)) = false)
    (hlit : lit.length ≤ 1000) (hno : PySem.W.findIn K (.ref C) pn = some none) :
    ∃ fd, FnOk P w K mg base CX0 2 f fd ["self", pn] (spErr C pn okInt) ∧ Binds K fd ["self", pn] [] := by
  refine sup_fn T S (fun vs H Q E h => ?_) hb fun A outer s H vs Q E hsp hroom s1 I => ?_
  · obtain ⟨a, v, rfl, _⟩ := h
    rfl
  · obtain ⟨a, v, rfl, ha, ⟨i, rfl, hi⟩, hQ⟩ := hsp
    have vN : Vis (ncx CX0 P w K mg base ["self", pn, "__class__"] (supNF qual st cda cc) f A outer s H E).env.scope pn := .inl (S.par _ (by simp))
    have vS : Vis (ncx CX0 P w K mg base ["self", pn, "__class__"] (supNF qual st cda cc) f A outer s H E).env.scope "self" := .inl (S.par _ (by simp))
    rw [hbd]
    refine two_run (te := fun σ H Q => tJs [tC (.str lit), tFmt (tVar 1)] Str.empty σ H fun out H1 => Q (.str out) H1) T I rfl hks (S.frk _ (by simp)) (by rw [har2]; exact S.par _ (by simp)) har (by rw [har2]; rfl) rfl ha
      (pe_joined (.cons pe_str (.cons (pe_fmt (pe_var (i := 1) rfl vN hd1 hd2)) .nil)))
      (ps_ost (pe_var (i := 0) rfl vS) (pe_var (i := 1) rfl vN hd1 hd2)) ?_ (form_of _ hln) (by rfl) (by show ((defScope st).kind == _ && _) = false; rw [S.kind]; rfl)
    have e0 := lit_small hlit
    have e1 := int_text_length_le (k := 1920) (by decide) hi
    refine ⟨lit, rfl, by rw [sizeLine_eq]; omega, _, rfl, .inr ⟨i, rfl, hi, Str.ofString (toString i), rfl, ?_, Nat.le_refl _, ha, ?_⟩⟩
    · rw [Str.length_append, PySem.ofString_length, sizeLine_eq]
      omega
    · exact ⟨_, rfl, _, rfl, a, C, rfl, T.oex, hno, .inl ⟨ha, fun dx h1 h2 => hQ dx h1 h2⟩⟩
/-- the same where the argument is a text, shown by its repr -/
theorem err_txt {lit : Str} {j : Nat} {q1 q2 q3 q4 p0 p1 p2 p3 p4 r1 r2 r3 r4 : Pos} {ar : Arg} (T : ErrTxt P K mg C f cda cc qual st)
    (hbd : defBody st = [.Expr (.Call (.Attribute (.Call (.Name "super" p0) [] [] p1) "__init__" p2) [.JoinedStr [.Constant (.str lit) j q1, .FormattedValue (.Name pn q2) 114 none q3] q4] [] p3) p4,
      .Assign [.Attribute (.Name "self" r1) pn r2] (.Name pn r3) r4]) (hln : (p2.endLine == p3.line) = true)
    (S : NScope ["self", pn, "__class__"] ["self", pn] ["__class__"] (defScope st))
    (hb : ∀ (oc : Value) (od an : Option Addr) (kV doc pm ct : Value) (us : List Value), us.length = 2 →
      bindArgs (PySem.W.fnX "__init__" qual (defArgs st) (defBody st) (defScope st) [("__class__", cc)] .none kV doc pm an (.ref cda) ct) ⟨us, []⟩ = pure ((["self", pn] : List Str).zip us))
    (hks : (defScope st).names.lookup ("super" : Str) = some .globalImplicit)
    (har : ((defArgs st).posonlyargs ++ (defArgs st).args).head? = some ar) (har2 : ar.arg = "self")
    (hd1 : (pn == ("__debug__" : Str)) = false) (hd2 : (pn == ("__classdict__" : Str)) = false)
    (hlit : lit.length ≤ 1000) (hno : PySem.W.findIn K (.ref C) pn = some none) :
    ∃ fd, FnOk P w K mg base CX0 2 f fd ["self", pn] (spErr C pn okTxt) ∧ Binds K fd ["self", pn] [] := by
  refine sup_fn T S (fun vs H Q E h => ?_) hb fun A outer s H vs Q E hsp hroom s1 I => ?_
  · obtain ⟨a, v, rfl, _⟩ := h
    rfl
  · obtain ⟨a, v, rfl, ha, ⟨y, rfl, hy⟩, hQ⟩ := hsp
    have vN : Vis (ncx CX0 P w K mg base ["self", pn, "__class__"] (supNF qual st cda cc) f A outer s H E).env.scope pn := .inl (S.par _ (by simp))
    have vS : Vis (ncx CX0 P w K mg base ["self", pn, "__class__"] (supNF qual st cda cc) f A outer s H E).env.scope "self" := .inl (S.par _ (by simp))
    rw [hbd]
    refine two_run (te := fun σ H Q => tJs [tC (.str lit), tFmtR (tVar 1)] Str.empty σ H fun out H1 => Q (.str out) H1) T I rfl hks (S.frk _ (by simp)) (by rw [har2]; exact S.par _ (by simp)) har (by rw [har2]; rfl) rfl ha
      (pe_joined (.cons pe_str (.cons (pe_fmtR (pe_var (i := 1) rfl vN hd1 hd2)) .nil)))
      (ps_ost (pe_var (i := 0) rfl vS) (pe_var (i := 1) rfl vN hd1 hd2)) ?_ (form_of _ hln) (by rfl) (by show ((defScope st).kind == _ && _) = false; rw [S.kind]; rfl)
    have e0 := lit_small hlit
    refine ⟨lit, rfl, by rw [sizeLine_eq]; omega, _, rfl, .inl ⟨y, rfl, by rw [sizeLine_eq]; omega, reprText y, rfl, ?_, Nat.le_refl _, ha, ?_⟩⟩
    · rw [Str.length_append, sizeLine_eq]
      omega
    · exact ⟨_, rfl, _, rfl, a, C, rfl, T.oex, hno, .inl ⟨ha, fun dx h1 h2 => hQ dx h1 h2⟩⟩
end

/-! ### an own error, ready to be raised and caught -/
structure ErrOk (P : Program) (w : World) (K : PySem.W.Frag) (mg : Str → Option Value) (base : Heap) (nm : Str) (C : Addr) (fl : Str) (ok : V → Prop) : Prop where
  oex : OexC K C
  xf : XfC K C
  g : mg nm = some (.ref C)
  no : PySem.W.findIn K (.ref C) fl = some none
  te : PySem.W.exmOne K (.ref C) (.ref C) = some true
  run : ∃ (f : Addr) (fd : FuncData), PySem.W.findIn K (.ref C) "__init__" = some (some (.ref f)) ∧ PySem.W.typeIn K (.ref f) = some (.type "function") ∧
    FnOk P w K mg base CX0 2 f fd ["self", fl] (spErr C fl ok) ∧ Binds K fd ["self", fl] []

section
variable {X : Cx} {nm : Str} {C : Addr} {fl : Str} {ok : V → Prop} {e : Expr} {ta : TA} {p pos pos2 : Pos} {W : WX}
/-- raise nm(e) -/
def tErr (C : Addr) (fl : Str) (ok : V → Prop) (ta : TA) (W : WX) : TS := fun _ σ H => tMkO C (spErr C fl ok) [] ta σ H fun cls d H' => W cls d σ H'
theorem ps_err (R : ErrOk X.prog X.w X.K X.mg X.base nm C fl ok) (hc : X.calm = true) (tk : Takes X W) (hr : Room 3 X.A) (ha : PA X [e] ta) (hg : Gl X nm)
    (hdb : (nm == ("__debug__" : Str)) = false := by decide) (he : starEach [e] X.env = (false, eval e X.env) :: starEach [] X.env := by rfl) (hpl : (backTo pos (starEach [] X.env)).any (·.1) = false := by rfl) :
    PS X (.Raise (some (.Call (.Name nm p) [e] [] pos)) none pos2) (tErr C fl ok ta W) := by
  obtain ⟨f, fd, h1, h2, h3, h4⟩ := R.run
  exact ps_raise hc tk (pmk_oex R.oex h1 h2 h3 hr h4 .nil pass0 hg R.g ha hdb he hpl)
/-- what such a raise asks: the argument is fit, and every way out is met -/
theorem err_way {H1 : Hp} {v : V} {Q : XK} (hv : ok v) (h : ∀ d, H1 d = none → Q (.ref C) (some d) (upd H1 d (.xd [(fl, v)]))) :
    [v].length ≤ 1000 ∧ ∀ a, H1 a = none → spErr C fl ok (.ref a :: ([v] ++ [])) (upd H1 a (exo a C none))
      (fun r H2 => r = .non ∧ ∃ (d : Addr) (fs : List (Str × V)), H2 a = some (exo a C (some d)) ∧ H2 d = some (exd d fs) ∧ H1 d = none ∧ Q (.ref C) (some d) (upd (del H2 a) d (.xd fs))) (fun _ _ _ => False) := by
  refine ⟨by show 1 ≤ 1000; omega, fun a hn => ⟨a, v, rfl, upd_same, hv, fun dx hdx hne => ⟨rfl, dx, _, upd_same, by rw [upd_ne hne, upd_same], ?_, ?_⟩⟩⟩
  · rw [upd_ne hne] at hdx
    exact hdx
  · have hd1 : H1 dx = none := by
      rw [upd_ne hne] at hdx
      exact hdx
    have e : upd (del (upd (upd (upd H1 a (exo a C none)) dx (exd dx [(fl, v)])) a (exo a C (some dx))) a) dx (.xd [(fl, v)]) = upd H1 dx (.xd [(fl, v)]) := by
      funext b
      by_cases hb : b = dx
      · rw [hb, upd_same, upd_same]
      · rw [upd_ne hb, upd_ne hb]
        by_cases hba : b = a
        · rw [hba, del_same, hn]
        · rw [del_ne hba, upd_ne hba, upd_ne hb, upd_ne hba]
    rw [e]
    exact h dx hd1
end
end Sup

/-! Operators, repr and call of instances of own classes. -/
namespace Own
open PySem PySem.Spec PyProof.Rows L2
section
variable {X : Cx} {CX : CXT} {k : Nat} {C g : Addr} {sp : Sp} {E : XK} {pins : List (Addr × Obj)} {σ : L2.St} {H : Hp} {s : Shared}
theorem not_ni {v : V} {u : Value} (r : RelV v u) : u ≠ .notImplemented := fun z => by
  subst z
  cases v <;> first | (cases r; done) | (obtain ⟨_, z⟩ := r; cases z; done) | (obtain ⟨_, z⟩ := r; nomatch z)
theorem back {Q : VK} {u : Value} {s' : Shared} (h : EP X pins σ Q u s') : PySem.W.CmpBack (EP X pins σ Q) u s' := by
  obtain ⟨v, H', I', rv, q⟩ := id h
  have n := not_ni rv
  cases u <;> first | exact h | exact absurd rfl n
/-- a promise of an own method, asked at other surroundings with the same frames -/
theorem run_at {A : Around} {Q : VK} {us : List Value} {vs : List V} (F : FnR X.prog X.w X.K X.mg X.base CX k g sp) (hr : Room k A) (hfr : A.frames = some X.stack) (hx : Passes CX X E) (I : Inv X pins σ H s) (r : Vals vs us) (h : sp vs H Q E) :
    wpAny (model X.prog X.w) A (call (.ref g) us) (EP X pins σ Q) X.xe s := by
  have e0 : Env0 X.prog X.w X.K X.mg X.base A X.stack s H := by
    have e := I.env0
    exact ⟨hfr, e.mod, e.bs, e.bsz, e.funs, e.frf, e.hok, e.bare⟩
  refine wpAny_call (codeAny_mono (F A X.stack s H us vs Q E hr e0 r h) fun r s' hq => ?_)
  cases r with
  | error e => exact hx pins σ H s e s' I hq
  | ok fl =>
    cases fl with
    | ret u => exact I.after hq
    | next => exact False.elim hq
    | brk => exact False.elim hq
    | cont => exact False.elim hq
/-- two instances of the class at C, and what the operator's def promises of them -/
def rOwn (C : Addr) (sp : Sp) (E : XK) : R2 := fun x y H Q => ∃ a b dx dy fs gs, x = .ref a ∧ y = .ref b ∧ H a = some (.ins C dx fs) ∧ H b = some (.ins C dy gs) ∧ sp [.ref a, .ref b] H Q E
theorem op_cmp {op : CmpOp} (hop : ∀ v u, compareOp op v u = richCompare op v u) (F : FnR X.prog X.w X.K X.mg X.base CX k g sp) (hs : PySem.W.findIn X.K (.ref C) (cmpInfo op).2.1 = some (some (.ref g))) (hf : PySem.W.isFn X.K (.ref g) = true)
    (hr : Room k X.A) (hx : Passes CX X E) : OpR X (compareOp op) (rOwn C sp E) := by
  intro pins s σ H x y v u Q I rx ry h
  obtain ⟨a, b, dx, dy, fs, gs, rfl, rfl, ha, hb, hsp⟩ := h
  cases rx
  cases ry
  obtain ⟨mA, J, _⟩ := ins_get I.hok ha
  obtain ⟨mB, J', _⟩ := ins_get I.hok hb
  obtain ⟨od, J, _⟩ := J.look
  obtain ⟨od', J', _⟩ := J'.look
  obtain ⟨m, hF⟩ := I.fr
  rw [hop]
  refine PySem.W.cmp_K (op := op) (tb := .ref C) hr.units0 hF I.ok.mod.kin J J'.type (by simp [PySem.W.notFirst]) hs hf ?_
  exact wpAny_mono (wpAny_call (run_fnR F hr hx I (us := [.ref a, .ref b]) (vs := [.ref a, .ref b]) (.cons rfl (.cons rfl .nil)) hsp)) (fun _ _ z => back z) fun _ _ z => z
theorem op_bin {op : Operator} (hop : ∀ v u : Value, PySem.binaryOp op v u = PySem.binaryOp op v u) (F : FnR X.prog X.w X.K X.mg X.base CX k g sp) (hs : PySem.W.findIn X.K (.ref C) (PySem.dunder op.info.2) = some (some (.ref g))) (hf : PySem.W.isFn X.K (.ref g) = true)
    (hc : PySem.W.selfFirst X.K C = true) (hr : Room k X.A) (hx : Passes CX X E) : OpR X (PySem.binaryOp op) (rOwn C sp E) := by
  intro pins s σ H x y v u Q I rx ry h
  obtain ⟨a, b, dx, dy, fs, gs, rfl, rfl, ha, hb, hsp⟩ := h
  cases rx
  cases ry
  obtain ⟨mA, J, _⟩ := ins_get I.hok ha
  obtain ⟨mB, J', _⟩ := ins_get I.hok hb
  obtain ⟨od, J, _⟩ := J.look
  obtain ⟨od', J', _⟩ := J'.look
  obtain ⟨m, hF⟩ := I.fr
  refine PySem.W.binop_K (op := op) hF I.ok.mod.kin J J'.type hc hs hf ?_
  exact wpAny_mono (wpAny_call (run_fnR F hr hx I (us := [.ref a, .ref b]) (vs := [.ref a, .ref b]) (.cons rfl (.cons rfl .nil)) hsp)) (fun _ _ z => back z) fun _ _ z => z
/-- repr of an instance -/
def rRepr (C : Addr) (sp : Sp) (E : XK) : List V → Hp → VK → Prop := fun xs H Q => ∃ a dx fs, xs = [.ref a] ∧ H a = some (.ins C dx fs) ∧ sp [.ref a] H (fun v H' => ∃ y, v = .str y ∧ Q v H') E
theorem call_repr (F : FnR X.prog X.w X.K X.mg X.base CX k g sp) (hs : PySem.W.findIn X.K (.ref C) "__repr__" = some (some (.ref g))) (hf : PySem.W.isFn X.K (.ref g) = true)
    (hr : Room (k + 1) X.A) (hx : Passes CX X E) : CallR X (.builtin "repr") (rRepr C sp E) := by
  intro pins s σ H xs us Q I r h
  obtain ⟨a, dx, fs, rfl, ha, hsp⟩ := h
  obtain ⟨u, rfl, r1⟩ : ∃ u, us = [u] ∧ RelV (.ref a) u := by
    cases r with
    | cons r1 rr =>
      cases rr
      exact ⟨_, rfl, r1⟩
  cases r1
  obtain ⟨mA, J, _⟩ := ins_get I.hok ha
  obtain ⟨od, J, _⟩ := J.look
  obtain ⟨m, hF⟩ := I.fr
  refine PySem.W.repr_K ?_ hF I.ok.mod.kin J hs hf (wpAny_mono (run_at F ?_ ?_ hx I (us := [.ref a]) (vs := [.ref a]) (.cons rfl .nil) hsp) (fun u s' z => ?_) fun _ _ z => z)
  · have := hr.un
    show X.A.units + 1 < _
    omega
  · exact hr.in1
  · exact I.env0.frames
  · obtain ⟨v, H', I', rv, y, rfl, q⟩ := z
    obtain ⟨t, rfl⟩ := rv
    exact ⟨.str y, H', I', ⟨t, rfl⟩, q⟩
/-! ### != by the own == -/
theorem ifBound_B {M : Model} {A : Around} {Er : Value → Shared → Prop} {s : Shared} {K : PySem.W.Frag} {x C : Addr} {ox : Obj} {od : Option Obj} {name : Str} {id : String} {args : List Value} {Q : Option Value → Shared → Prop} (X : K.In s.heap) (I : PySem.W.InstAt s.heap x ox C od)
    (hs : PySem.W.findIn K (.ref C) name = some (some (.builtin id))) (hb : ∀ self, bindSpecial (.builtin id) self = pure (.builtin id, [self]))
    (h : wpAny M A (call (.builtin id) (.ref x :: args)) (fun v => Q (some v)) Er s) : wpAny M A (callSpecialIfBound? (.ref x) name args) Q Er s := by
  simp only [callSpecialIfBound?, bindSpecialIfBound?]
  refine wpAny_holding (wpAny_bind (wpAny_bind (wpAny_bind (I.type.here ((PySem.W.looks_findIn X hs).here ?_)))))
  refine wpAny_bind (wpAny_askSetting (wpAny_ite ?_))
  have fin : wpAny M A (call (.builtin id) ([.ref x] ++ args) >>= fun v => pure (some v)) Q Er s := wpAny_bind (wpAny_mono h (fun v s' h' => wpAny_pure h') fun _ _ h' => h')
  split
  · exact wpAny_bind ((PySem.W.Looks.of_pure (hb _)).here (wpAny_pure (by exact fin)))
  · exact wpAny_tryCatch (wpAny_bind ((PySem.W.Looks.of_pure (hb _)).here (wpAny_pure (by exact fin))))
def rOwnNe (C : Addr) (sp : Sp) (E : XK) : R2 := fun x y H Q => ∃ a b dx dy fs gs, x = .ref a ∧ y = .ref b ∧ H a = some (.ins C dx fs) ∧ H b = some (.ins C dy gs) ∧ sp [.ref a, .ref b] H (fun v H' => ∃ t, v = .bl t ∧ Q (.bl (!t)) H') E
theorem op_ne (F : FnR X.prog X.w X.K X.mg X.base CX k g sp) (hs : PySem.W.findIn X.K (.ref C) "__eq__" = some (some (.ref g))) (hn : PySem.W.findIn X.K (.ref C) "__ne__" = some (some (.builtin "object.__ne__"))) (hm : PySem.W.mroIn X.K C (.type "object") = some true)
    (hf : PySem.W.isFn X.K (.ref g) = true) (hr : Room (k + 1) X.A) (hx : Passes CX X E) : OpR X (compareOp .NotEq) (rOwnNe C sp E) := by
  intro pins s σ H x y v u Q I rx ry h
  obtain ⟨a, b, dx, dy, fs, gs, rfl, rfl, ha, hb, hsp⟩ := h
  cases rx
  cases ry
  obtain ⟨mA, J, _⟩ := ins_get I.hok ha
  obtain ⟨mB, J', _⟩ := ins_get I.hok hb
  obtain ⟨od, J, _⟩ := J.look
  obtain ⟨od', J', _⟩ := J'.look
  have KI := I.kIn
  have hu1 : X.A.in1.units < cLine := by
    have := hr.un
    show X.A.units + 1 < _
    omega
  have one : wpAny (model X.prog X.w) X.A (tryCompare (.ref a) (cmpInfo .NotEq).2.1 (.ref b)) (fun r s' => ∃ v, r = some v ∧ EP X pins σ Q v s') X.xe s := by
    unfold tryCompare
    refine wpAny_bind (ifBound_B KI J hn PySem.F.cmp_object.ne.bind (wpAny_call (codeAny_call_builtin PySem.F.cmp_object.ne.plain PySem.F.cmpEntry_ne
      (PySem.W.check_slot PySem.F.cmpKind_ne PySem.F.cmpSplit_ne (J.type.andThen (PySem.W.looks_mroIn KI hm)) (PySem.F.cmpArgs_ne _ _) ?_))))
    unfold Builtin.«object.__ne__»
    refine wpAny_bind (m := slotArgs "__ne__" 1 _) (wpAny_pure ?_)
    refine wpAny_bind (m := cRoomFor _ _) (wpAny_cRoomFor hu1 ?_)
    refine wpAny_bind (m := callSpecialIfBound? (.ref a) (Str.ofString "__eq__") _) (PySem.W.ifBound_K KI J hs hf (wpAny_mono (run_at F hr.in1 I.env0.frames hx I (us := [.ref a, .ref b]) (vs := [.ref a, .ref b]) (.cons rfl (.cons rfl .nil)) hsp) (fun u s' z => ?_) fun _ _ z => z))
    obtain ⟨v, H', I', rv, t, rfl, q⟩ := z
    cases rv
    refine wpAny_bind (m := truthy (.bool t)) (wpAny_truthy_bool ?_)
    first
      | exact wpAny_pure (wpAny_pure ⟨_, rfl, .bl (!t), H', I', rfl, q⟩)
      | exact wpAny_pure ⟨_, rfl, .bl (!t), H', I', rfl, q⟩
  show wpAny _ _ (richCompare .NotEq (.ref a) (.ref b)) _ _ _
  unfold richCompare
  simp only [PySem.oneThing_ref]
  refine wpAny_holding (wpAny_bind (wpAny_cRoomFor hr.units0 ?_))
  refine wpAny_bind (J.type.here (wpAny_bind (J'.type.here ?_)))
  rw [if_neg (by simp)]
  refine wpAny_bind (wpAny_pure ?_)
  simp only [Bool.false_eq_true, if_false]
  refine wpAny_bind (wpAny_mono one (fun r s' z => ?_) fun _ _ e => e)
  obtain ⟨v, rfl, hq⟩ := z
  exact wpAny_pure hq
end
/-! ### a def that returns NotImplemented -/
section
variable {P : Program} {w : World} {K : PySem.W.Frag} {mg : Str → Option Value} {base : Heap}
/-- on values of which pre holds the def at f returns NotImplemented and changes nothing -/
def NiOk (P : Program) (w : World) (K : PySem.W.Frag) (mg : Str → Option Value) (base : Heap) (k : Nat) (f : Addr) (pre : List V → Hp → Prop) : Prop :=
  ∀ (A : Around) (outer : List Env) (s : Shared) (H : Hp) (us : List Value) (vs : List V), Room k A → Env0 P w K mg base A outer s H → Vals vs us → pre vs H →
    codeAny (model P w) A (.call (.ref f) ⟨us, []⟩) (fun r s' => r = .ok (.ret .notImplemented) ∧ CE outer P w H s (fun _ H' => H' = H) .none s') s
theorem ni_def {x qual : Str} {st : Stmt} {f : Addr} {fd : FuncData} {N ps : List Str} {k : Nat} {pre : List V → Hp → Prop} {t : Expr} {els rest : List Stmt} {p2 p3 p4 : Pos} (F : Fun K x qual st f fd) (S : FnScope N ps (defScope st)) (hb : Binds K fd ps [])
    (len : ∀ vs H, pre vs H → vs.length = ps.length) (hbd : defBody st = .If t [.Return (some (.Name "NotImplemented" p2)) p3] els p4 :: rest) (hg : (defScope st).names.lookup ("NotImplemented" : Str) = some .globalImplicit) (hm : mg "NotImplemented" = none)
    (htest : ∀ (cdv : Value) (A : Around) (outer : List Env) (s : Shared) (H : Hp) (vs : List V), Room k (A.deeper (envOfC qual (defScope st) s.heap.objs.size f cdv)) → pre vs H →
      ∃ tt, PT (cxOf CX0 P w K mg base N qual (defScope st) f cdv A outer s H (fun _ _ _ => False)).nox t tt ∧ tt (start N vs) H (fun b H' => b = true ∧ H' = H)) :
    NiOk P w K mg base (k + 1) f pre := by
  intro A outer s H us vs hr e0 r hp
  have hl := len _ _ hp
  have hbind := hb s us (e0.mod.kin.keeps fun b o e => (e0.bs b o e).1) (by rw [List.append_nil, ← r.length]; exact hl)
  rw [List.append_nil] at hbind
  obtain ⟨oc, od, kV, doc, pm, an, cdv, ct, osl, rfl, lk, hcd⟩ := F.ex
  have KX : K.In s.heap := e0.mod.kin.keeps fun b o e => (e0.bs b o e).1
  have lim : s.heap.NoLimit := e0.mod.nolimit.keeps fun b o e => (e0.bs b o e).1
  have hkind : ∀ y ∈ ps.zip us, (defScope st).names.lookup y.1 = some .local ∨ ((defScope st).names.lookup y.1 = some .cell ∧ ((cellsFrom (s.heap.objs.size + 1) (defScope st).names []).lookup y.1).isSome = true) := fun ⟨n, v⟩ hy => by
    rcases S.par n (List.of_mem_zip hy).1 with q | q
    · exact .inl q
    · exact .inr ⟨q, PySem.W.cellsFrom_some _ _ _ (.inl q)⟩
  refine codeAny_call_function hr.depth (KX _ _ lk) rfl S.co S.gen rfl (PySem.W.codeRec_of KX hcd) (hbind _ _ _ _ ?_)
  refine wpAny_newFunctionEnv_cells S.kind hkind fun env he s1 x => ?_
  subst he
  refine ⟨lim.keeps x.toInCall.keep, codeAny_func ?_⟩
  obtain ⟨tt, ht, hq⟩ := htest cdv A outer s H vs (hr.deeper _) hp
  have I : L2.Inv (cxOf CX0 P w K mg base N qual (defScope st) f cdv A outer s H (fun _ _ _ => False)) [] (start N vs) H s1 := inv_start S hr.hd e0 hl r x
  rw [hbd]
  refine wpAny_execs_cons (wpAny_If (wpAny_mono (ht.run [] s1 (start N vs) H _ (I.wish _) hq) (fun b s2 h2 => ?_) fun e s' z => False.elim z))
  obtain ⟨H2, I2, rfl, rfl⟩ := h2
  refine wpAny_execs_cons (wpAny_Return_some (ld_blt I2 hg hm (u := .notImplemented) (by decide +kernel) ?_))
  exact ⟨rfl, .non, _, I2.os, I2.bare, I2.base, I2.hok, rfl, rfl⟩
end
section
variable {X : Cx} {CX : CXT} {k : Nat} {C g : Addr} {sp : Sp} {E : XK} {pre : List V → Hp → Prop}
theorem int_eq_ref (a : Int) (t : Tok) (b C dx : Addr) : Meets (Builtin.«int.__eq__» ⟨[.int a t, .ref b], []⟩) (fun _ R s => s.heap.get? b = some (PySem.W.instObj C dx) ∧ R (.ok (.ret Value.notImplemented)) s) :=
  .of_wp fun prog w A R s h => by
    obtain ⟨hp, g, d, tk, os⟩ := s
    obtain ⟨hl, h⟩ := h
    wp_walk using wpAny_load' hl
    exact ⟨_, rfl, h⟩
/-- an instance == a whole number, where the own == declines -/
def rEqI (C : Addr) (pre : List V → Hp → Prop) : R2 := fun x y H Q => ∃ a dx fs i, x = .ref a ∧ y = .int i ∧ H a = some (.ins C dx fs) ∧ pre [.ref a, .int i] H ∧ Q (.bl false) H
theorem op_eqI (N : NiOk X.prog X.w X.K X.mg X.base k g pre) (hs : PySem.W.findIn X.K (.ref C) "__eq__" = some (some (.ref g))) (hf : PySem.W.isFn X.K (.ref g) = true) (hsub : PySem.W.subIn X.K (.type "int") (.ref C) = some false)
    (hr : Room k X.A) : OpR X (compareOp .Eq) (rEqI C pre) := by
  intro pins s σ H x y v u Q I rx ry h
  obtain ⟨a, dx, fs, i, rfl, rfl, ha, hp, q⟩ := h
  cases rx
  obtain ⟨t, rfl⟩ := ry
  obtain ⟨mA, J, _⟩ := ins_get I.hok ha
  obtain ⟨od, J, _⟩ := J.look
  have KI := I.kIn
  show wpAny _ _ (richCompare .Eq (.ref a) (.int i t)) _ _ _
  unfold richCompare
  simp only [PySem.oneThing_ref]
  refine wpAny_holding (wpAny_bind (wpAny_cRoomFor hr.units0 ?_))
  refine wpAny_bind (J.type.here (wpAny_bind ((PySem.W.Looks.of_pure (M := model X.prog X.w) (h := s.heap) (show typeOf (.int i t) = pure (.type "int") from rfl)).here ?_)))
  have hne : (Value.ref C != Value.type "int") = true := by
    have z : (Value.ref C == Value.type "int") = false := Bool.eq_false_iff.mpr fun q => by cases beq_iff_eq.mp q
    show (!(Value.ref C == Value.type "int")) = true
    rw [z]; rfl
  rw [if_pos hne]
  refine wpAny_bind ((PySem.W.looks_subIn KI hsub).here ?_)
  simp only [Bool.false_eq_true, if_false]
  refine wpAny_bind (m := tryCompare (.ref a) _ (.int i t)) ?_
  unfold tryCompare
  have cl : wpAny (model X.prog X.w) X.A (call (.ref g) [.ref a, .int i t]) (fun u s' => u = .notImplemented ∧ L2.Inv X pins σ H s') X.xe s := by
    refine wpAny_call (codeAny_mono (N X.A X.stack s H [.ref a, .int i t] [.ref a, .int i] hr I.env0 (.cons rfl (.cons ⟨t, rfl⟩ .nil)) hp) fun r s' z => ?_)
    obtain ⟨rfl, z⟩ := z
    obtain ⟨v, H', I', rv, e⟩ := I.after z
    rw [e] at I'
    exact ⟨rfl, I'⟩
  refine wpAny_bind (PySem.W.ifBound_K KI J hs hf (wpAny_mono cl (fun u s' z => ?_) fun _ _ z => z))
  obtain ⟨rfl, I'⟩ := z
  refine wpAny_pure ?_
  obtain ⟨mA', J', _⟩ := ins_get I'.hok ha
  obtain ⟨od', J', _⟩ := J'.look
  dsimp only
  refine wpAny_bind (m := tryCompare (.int i t) _ (.ref a)) ?_
  refine wpAny_tryCompare_declines (typeIs_int _ i t) PySem.F.slot_int_eq (call_meets PySem.F.slot_int_eq (typeIs_int _ i t) PySem.F.entry_int_eq (PySem.F.args_int_eq_2 _ _) (int_eq_ref i t a C dx) ⟨J'.at_, rfl, ?_⟩)
  dsimp only
  refine wpAny_bind (wpAny_rule (wpAny_bind (wpAny_isSame_plain (by rfl) (wpAny_pure ?_))))
  have z : (Value.ref a == Value.int i t) = false := Bool.eq_false_iff.mpr fun q => by cases beq_iff_eq.mp q
  rw [z]
  exact ⟨.bl false, H, I', rfl, q⟩
end
/-! ### x(e, ..) and x(), x a local name that holds an instance -/
section
variable {X : Cx} {CX : CXT} {k i : Nat} {C g : Addr} {sp : Sp} {E : XK} {x : Str} {e : Expr} {es : List Expr} {t : TA} {p pos : Pos}
theorem run_ins {pins : List (Addr × Obj)} {σ : L2.St} {H : Hp} {s : Shared} {Q : VK} {a dx : Addr} {fs : List (Str × V)} {us : List Value} {vs : List V} (c : StX.CallO X.K C g) (F : FnR X.prog X.w X.K X.mg X.base CX k g sp) (hr : Room k X.A) (hx : Passes CX X E) (I : L2.Inv X pins σ H s)
    (ha : H a = some (.ins C dx fs)) (r : Vals vs us) (h : sp (V.ref a :: vs) H Q E) : wpAny (model X.prog X.w) X.A (call (.ref a) us) (EP X pins σ Q) X.xe s := by
  obtain ⟨mA, J, _⟩ := ins_get I.hok ha
  obtain ⟨od, J, _⟩ := J.look
  exact wpAny_call (PySem.W.kco_code I.kIn J rfl c.at_ c.fn c.fi (run_fnR (us := .ref a :: us) (vs := .ref a :: vs) F hr hx I (.cons rfl r) h))
def tCallI (i : Nat) (C : Addr) (sp : Sp) (E : XK) (t : TA) : TE := fun σ H Q => ∃ a, σ[i]? = some (some (.ref a)) ∧ t σ H fun vs H1 => (∃ dx fs, H1 a = some (.ins C dx fs)) ∧ sp (V.ref a :: vs) H1 Q E
theorem pe_callI (c : StX.CallO X.K C g) (F : FnR X.prog X.w X.K X.mg X.base CX k g sp) (hr : Room k X.A) (hx : Passes CX X E) (hN : X.N[i]? = some x) (hv : Vis X.env.scope x) (ha : PA X (e :: es) t)
    (hd : (x == ("__debug__" : Str)) = false := by decide) (hcd : (x == ("__classdict__" : Str)) = false := by decide)
    (he : starEach (e :: es) X.env = (false, eval e X.env) :: starEach es X.env := by rfl) (hpl : (backTo pos (starEach es X.env)).any (·.1) = false := by rfl) : PE X (.Call (.Name x p) (e :: es) [] pos) (tCallI i C sp E t) := by
  refine ⟨fun pins s σ H Q I h => ?_⟩
  obtain ⟨a, hs, h⟩ := h
  refine wpAny_Call_Name_kw (thn ((pe_var (pos := p) (i := i) hN hv hd hcd).run pins s σ H (fun v H1 => v = .ref a ∧ H1 = H) I ⟨.ref a, hs, rfl, rfl⟩) fun u s1 ⟨v, H1, I1, r1, ev, eH⟩ => ?_)
  subst ev
  rw [eH] at I1
  cases r1
  refine StX.callO_with (thn (ha.run pos pins s1 σ H _ I1 h) fun us s2 ⟨vs, H2, I2, r, ⟨dx, fs, hi⟩, q2⟩ => ?_) he hpl
  obtain ⟨mA, J, _⟩ := ins_get I2.hok hi
  obtain ⟨od, J, _⟩ := J.look
  exact ⟨⟨C, _, _, J, rfl⟩, run_ins c F hr hx I2 hi r q2⟩
theorem pe_callI0 (c : StX.CallO X.K C g) (F : FnR X.prog X.w X.K X.mg X.base CX k g sp) (hr : Room k X.A) (hx : Passes CX X E) (hN : X.N[i]? = some x) (hv : Vis X.env.scope x)
    (hd : (x == ("__debug__" : Str)) = false := by decide) (hcd : (x == ("__classdict__" : Str)) = false := by decide) : PE X (.Call (.Name x p) [] [] pos) (tCallI i C sp E tNil) := by
  refine ⟨fun pins s σ H Q I h => ?_⟩
  obtain ⟨a, hs, ⟨dx, fs, hi⟩, h⟩ := h
  refine wpAny_Call_Name_kw (thn ((pe_var (pos := p) (i := i) hN hv hd hcd).run pins s σ H (fun v H1 => v = .ref a ∧ H1 = H) I ⟨.ref a, hs, rfl, rfl⟩) fun u s1 ⟨v, H1, I1, r1, ev, eH⟩ => ?_)
  subst ev
  rw [eH] at I1
  cases r1
  obtain ⟨mA, J, _⟩ := ins_get I1.hok hi
  obtain ⟨od, J, _⟩ := J.look
  exact PySem.W.kco_callWith0 (K := X.K) I1.kIn J rfl c.at_ (run_ins (us := []) c F hr hx I1 hi .nil h)
end
end Own

namespace Own
open PySem PySem.Spec PyProof.Rows L2
/-- a promise told of the values as they come -/
theorem fnr_of {P : Program} {w : World} {K : PySem.W.Frag} {mg : Str → Option Value} {base : Heap} {CX : CXT} {k : Nat} {f : Addr} {fd : FuncData} {ps : List Str} {sp : Sp} {dvs : List V} {ds : List Value} (G : FnOk P w K mg base CX k f fd ps sp) (hb : Binds K fd ps ds) (hd : Vals dvs ds) :
    FnR P w K mg base CX k f (fun vs H Q E => sp (vs ++ dvs) H Q E) := fun A outer s H us vs Q E hr e0 r h => by
  have KX : K.In s.heap := e0.mod.kin.keeps fun b o e => (e0.bs b o e).1
  have hl : (us ++ ds).length = ps.length := by
    have e := (r.append hd).length
    rw [G.len _ _ _ _ h] at e
    exact e.symm
  exact G.run A outer s H ⟨us, []⟩ (us ++ ds) (vs ++ dvs) Q E hr e0 (hb s us KX hl) (r.append hd) h
theorem fnr0 {P : Program} {w : World} {K : PySem.W.Frag} {mg : Str → Option Value} {base : Heap} {CX : CXT} {k : Nat} {f : Addr} {fd : FuncData} {ps : List Str} {sp : Sp} (G : FnOk P w K mg base CX k f fd ps sp) (hb : Binds K fd ps []) :
    FnR P w K mg base CX k f sp := (fnr_of G hb .nil).imp fun vs H Q E h => by rw [List.append_nil]; exact h
section
variable {X : Cx} {CX : CXT} {k i : Nat} {C g f : Addr} {sp : Sp} {E : L2.St → XK} {x : Str} {e a b : Expr} {es : List Expr} {t : TA} {ta tb : TE} {p pos : Pos} {fd : FuncData} {ps : List Str} {dvs : List V} {ds : List Value}
theorem run_fnRS {pins : List (Addr × Obj)} {σ : L2.St} {H : Hp} {s : Shared} {Q : VK} {us : List Value} {vs : List V} (F : FnR X.prog X.w X.K X.mg X.base CX k g sp) (hr : Room k X.A) (hx : PassesAt CX X σ (E σ)) (I : L2.Inv X pins σ H s) (r : Vals vs us) (h : sp vs H Q (E σ)) :
    codeAny (model X.prog X.w) X.A (.call (.ref g) ⟨us, []⟩) (fun r s' => match r with | .ok (.ret v) => EP X pins σ Q v s' | .ok _ => False | .error e => X.xe e s') s := by
  refine codeAny_mono (F X.A X.stack s H us vs Q (E σ) hr I.env0 r h) fun r s' hq => ?_
  cases r with
  | error e => exact hx pins H s e s' I hq
  | ok fl =>
    cases fl with
    | ret u => exact I.after hq
    | next => exact False.elim hq
    | brk => exact False.elim hq
    | cont => exact False.elim hq
/-- a + b of two instances of one own class -/
theorem pe_binS {op : Operator} (F : FnR X.prog X.w X.K X.mg X.base CX k g sp) (hs : PySem.W.findIn X.K (.ref C) (PySem.dunder op.info.2) = some (some (.ref g))) (hf : PySem.W.isFn X.K (.ref g) = true) (hc : PySem.W.selfFirst X.K C = true) (hr : Room k X.A)
    (hx : ∀ σ, PassesAt CX X σ (E σ)) (ha : PE X a ta) (hb : PE X b tb) : PE X (.BinOp a op b pos) (fun σ H Q => ta σ H fun x H1 => tb σ H1 fun y H2 => rOwn C sp (E σ) x y H2 Q) := by
  refine ⟨fun pins s σ H Q I h => ?_⟩
  have h' : tOp (fun x y H2 Q => rOwn C sp (E σ) x y H2 Q) ta tb σ H Q := h
  refine wpAny_BinOp (binT ha hb I h' fun v u s2 x y H2 I2 rx ry q => ?_)
  obtain ⟨a, b, dx, dy, fs, gs, rfl, rfl, ha, hb, hsp⟩ := q
  cases rx
  cases ry
  obtain ⟨mA, J, _⟩ := ins_get I2.hok ha
  obtain ⟨mB, J', _⟩ := ins_get I2.hok hb
  obtain ⟨od, J, _⟩ := J.look
  obtain ⟨od', J', _⟩ := J'.look
  obtain ⟨m, hF⟩ := I2.fr
  refine PySem.W.binop_K (op := op) hF I2.ok.mod.kin J J'.type hc hs hf ?_
  exact wpAny_mono (wpAny_call (run_fnRS F hr (hx σ) I2 (us := [.ref a, .ref b]) (vs := [.ref a, .ref b]) (.cons rfl (.cons rfl .nil)) hsp)) (fun _ _ z => back z) fun _ _ z => z
/-- C(e, ..) whose __init__ may raise -/
structure MkS (C : Addr) (sp : Sp) (E : XK) (vs : List V) (H1 : Hp) (Q : VK) : Prop where
  run : ∀ x dx, H1 x = Option.none → H1 dx = Option.none → dx ≠ x → sp (V.ref x :: vs) (upd (upd H1 dx (.own x)) x (.ins C dx [])) (fun v H2 => v = .non ∧ Q (.ref x) H2) E
def tMakeS (C : Addr) (sp : Sp) (E : L2.St → XK) (t : TA) : TE := fun σ H Q => t σ H fun vs H1 => MkS C sp (E σ) vs H1 Q
theorem pe_makeS (M : Mk X.K C f) (F : FnR X.prog X.w X.K X.mg X.base CX k f sp) (hr : Room (k + 1) X.A) (hg : Gl X x) (hm : X.mg x = some (.ref C)) (hx : ∀ σ, PassesAt CX X σ (E σ)) (ha : PA X (e :: es) t) (hdb : (x == ("__debug__" : Str)) = false := by decide)
    (he : starEach (e :: es) X.env = (false, eval e X.env) :: starEach es X.env := by rfl) (hpl : (backTo pos (starEach es X.env)).any (·.1) = false := by rfl) : PE X (.Call (.Name x p) (e :: es) [] pos) (tMakeS C sp E t) := by
  refine ⟨fun pins s σ H Q I h => ?_⟩
  refine wpAny_Call_Name_kw (ld_glob I hg hm ?_ hdb)
  refine PySem.W.callWith_K (h₀ := X.base) I.ok.mod.kin M.kp (thn (ha.run pos pins s σ H _ I h) fun us s1 ⟨vs, H1, I1, r, q⟩ => ⟨I1.kIn, ?_⟩) he hpl
  have hq := q.run (s1.heap.objs.size + 1) s1.heap.objs.size (I1.hok.fresh (Nat.le_succ _)) (I1.hok.fresh (Nat.le_refl _)) (Nat.ne_of_lt (Nat.lt_succ_self _))
  have I2 := Inv.made (C := C) I1
  have r2 : Vals (V.ref (s1.heap.objs.size + 1) :: vs) (Value.ref (s1.heap.objs.size + 1) :: us) := .cons rfl r
  refine wpAny_call (make_map (f := f) I1.kIn M.makes M.init (beq_iff_eq.mp M.fn) (codeAny_mono (F _ X.stack _ _ (Value.ref (s1.heap.objs.size + 1) :: us) _ _ (E σ) (hr.make C us []) (I2.env0.make C us []) r2 hq) fun r s' hq' => ?_))
  cases r with
  | error e => exact hx σ pins _ _ e s' I2 hq'
  | ok fl =>
    cases fl with
    | ret u =>
      obtain ⟨v, H', I3, rv, ev, q3⟩ := I2.after hq'
      subst ev
      exact ⟨rv, ⟨V.ref (s1.heap.objs.size + 1), H', I3, rfl, q3⟩⟩
    | next => exact False.elim hq'
    | brk => exact False.elim hq'
    | cont => exact False.elim hq'
def tCallIS (i : Nat) (C : Addr) (sp : Sp) (E : L2.St → XK) (t : TA) : TE := fun σ H Q => ∃ a, σ[i]? = some (some (.ref a)) ∧ t σ H fun vs H1 => (∃ dx fs, H1 a = some (.ins C dx fs)) ∧ sp (V.ref a :: vs) H1 Q (E σ)
theorem run_insS {pins : List (Addr × Obj)} {σ : L2.St} {H : Hp} {s : Shared} {Q : VK} {a dx : Addr} {fs : List (Str × V)} {us : List Value} {vs : List V} (c : StX.CallO X.K C g) (F : FnR X.prog X.w X.K X.mg X.base CX k g sp) (hr : Room k X.A) (hx : PassesAt CX X σ (E σ)) (I : L2.Inv X pins σ H s)
    (ha : H a = some (.ins C dx fs)) (r : Vals vs us) (h : sp (V.ref a :: vs) H Q (E σ)) : wpAny (model X.prog X.w) X.A (call (.ref a) us) (EP X pins σ Q) X.xe s := by
  obtain ⟨mA, J, _⟩ := ins_get I.hok ha
  obtain ⟨od, J, _⟩ := J.look
  exact wpAny_call (PySem.W.kco_code I.kIn J rfl c.at_ c.fn c.fi (run_fnRS (us := .ref a :: us) (vs := .ref a :: vs) F hr hx I (.cons rfl r) h))
theorem pe_callIS (c : StX.CallO X.K C g) (F : FnR X.prog X.w X.K X.mg X.base CX k g sp) (hr : Room k X.A) (hx : ∀ σ, PassesAt CX X σ (E σ)) (hN : X.N[i]? = some x) (hv : Vis X.env.scope x) (ha : PA X (e :: es) t)
    (hd : (x == ("__debug__" : Str)) = false := by decide) (hcd : (x == ("__classdict__" : Str)) = false := by decide)
    (he : starEach (e :: es) X.env = (false, eval e X.env) :: starEach es X.env := by rfl) (hpl : (backTo pos (starEach es X.env)).any (·.1) = false := by rfl) : PE X (.Call (.Name x p) (e :: es) [] pos) (tCallIS i C sp E t) := by
  refine ⟨fun pins s σ H Q I h => ?_⟩
  obtain ⟨a, hs, h⟩ := h
  refine wpAny_Call_Name_kw (thn ((pe_var (pos := p) (i := i) hN hv hd hcd).run pins s σ H (fun v H1 => v = .ref a ∧ H1 = H) I ⟨.ref a, hs, rfl, rfl⟩) fun u s1 ⟨v, H1, I1, r1, ev, eH⟩ => ?_)
  subst ev
  rw [eH] at I1
  cases r1
  refine StX.callO_with (thn (ha.run pos pins s1 σ H _ I1 h) fun us s2 ⟨vs, H2, I2, r, ⟨dx, fs, hi⟩, q2⟩ => ?_) he hpl
  obtain ⟨mA, J, _⟩ := ins_get I2.hok hi
  obtain ⟨od, J, _⟩ := J.look
  exact ⟨⟨C, _, _, J, rfl⟩, run_insS c F hr (hx σ) I2 hi r q2⟩
theorem pe_callIS0 (c : StX.CallO X.K C g) (F : FnR X.prog X.w X.K X.mg X.base CX k g sp) (hr : Room k X.A) (hx : ∀ σ, PassesAt CX X σ (E σ)) (hN : X.N[i]? = some x) (hv : Vis X.env.scope x)
    (hd : (x == ("__debug__" : Str)) = false := by decide) (hcd : (x == ("__classdict__" : Str)) = false := by decide) : PE X (.Call (.Name x p) [] [] pos) (tCallIS i C sp E tNil) := by
  refine ⟨fun pins s σ H Q I h => ?_⟩
  obtain ⟨a, hs, ⟨dx, fs, hi⟩, h⟩ := h
  refine wpAny_Call_Name_kw (thn ((pe_var (pos := p) (i := i) hN hv hd hcd).run pins s σ H (fun v H1 => v = .ref a ∧ H1 = H) I ⟨.ref a, hs, rfl, rfl⟩) fun u s1 ⟨v, H1, I1, r1, ev, eH⟩ => ?_)
  subst ev
  rw [eH] at I1
  cases r1
  obtain ⟨mA, J, _⟩ := ins_get I1.hok hi
  obtain ⟨od, J, _⟩ := J.look
  exact PySem.W.kco_callWith0 (K := X.K) I1.kIn J rfl c.at_ (run_insS (us := []) c F hr (hx σ) I1 hi .nil h)
end
end Own

/-! def f(self, **d): the keywords of a call, as a dict. -/
namespace KwX
open PySem PySem.Spec PyProof.Rows L2 StX
open PySem.W (dictOf kwEs)
section
variable {prog : Program} {w : World} {A : Around} {E : Value → Shared → Prop}
theorem set_at {s : Shared} {d : Addr} {es : List DictEntry} {n : Nat} {k : Str} {v : Value} {Q : Unit → Shared → Prop} (D : s.heap.get? d = some (dictOf es n)) (hs : ∀ e ∈ es, e.key.isStr k = false) (hr : ∀ e ∈ es, e.refKey = false)
    (h : ∀ h', h'.get? d = some (dictOf (es ++ [⟨PyData.keyHash w.params k, .str k s.toks, v⟩]) (n + 1)) → (∀ b, b ≠ d → h'.get? b = s.heap.get? b) → h'.objs.size = s.heap.objs.size → Q () { s with heap := h', toks := s.toks + 1 }) :
    wpAny (model prog w) A (nsSet d k v) Q E s := by
  have none_of : ∀ {p : DictEntry → Bool}, (∀ e ∈ es, p e = false) → es.any p = false := fun {p} hp => by
    cases q : es.any p with
    | false => rfl
    | true =>
      obtain ⟨e, he, z⟩ := List.any_eq_true.mp q
      rw [hp e he] at z
      cases z
  have e1 := none_of hs
  have e2 := none_of hr
  have e : Obj.putName k (PyData.keyHash w.params k) (.str k s.toks) v (dictOf es n) = dictOf (es ++ [⟨PyData.keyHash w.params k, .str k s.toks, v⟩]) (n + 1) := by
    rw [PySem.W.putName_dict, PySem.W.putL_new hs]
    show dictOf _ (if es.any (·.key.isStr k) then n else n + 1) = _
    rw [e1, if_neg Bool.false_ne_true]
  have c : aRefKeyMayBeTheName k es.toArray = false := by
    rw [aRefKeyMayBeTheName_at, ← Array.any_toList, ← Array.any_toList]
    show (!es.any (·.key.isStr k) && es.any (·.refKey)) = false
    rw [e2, Bool.and_false]
  unfold nsSet
  refine wpAny_bind (wpAny_bind (wpAny_askSetting (wpAny_pure (wpAny_bind (wpAny_mkText (wpAny_bind (wpAny_loadPart D ?_)))))))
  dsimp only
  rw [c]
  refine wpAny_updatePart D (h _ ?_ (fun b hb => ?_) (Heap.size_update _ _ _))
  · have q : (Obj.putName k (PyData.keyHash w.params k) (.str k s.toks) v (dictOf es n)).isFreed = false := (congrArg Obj.isFreed e).trans rfl
    exact (Heap.get?_update_self _ D q).trans (congrArg some e)
  · exact Heap.get?_update_other _ _ (Ne.symm hb)
theorem fill_at {d : Addr} {Q : PUnit → Shared → Prop} : ∀ (ex : List (Str × Value)) (s : Shared) (es : List DictEntry) (n : Nat), s.heap.get? d = some (dictOf es n) →
    (∀ e ∈ es, ∀ x ∈ ex, e.key.isStr x.1 = false) → (∀ e ∈ es, e.refKey = false) → (ex.map (·.1)).Nodup →
    (∀ h' tk, h'.get? d = some (dictOf (es ++ kwEs w.params s.toks ex) (n + ex.length)) → (∀ b, b ≠ d → h'.get? b = s.heap.get? b) → h'.objs.size = s.heap.objs.size → Q ⟨⟩ { s with heap := h', toks := tk }) →
    wpAny (model prog w) A (forIn ex PUnit.unit fun x _ => (nsSet d x.1 x.2 >>= fun _ => pure (ForInStep.yield PUnit.unit))) Q E s
  | [], s, es, n, D, _, _, _, h => by
    rw [List.forIn_nil]
    refine wpAny_pure (h s.heap s.toks ?_ (fun _ _ => rfl) rfl)
    show s.heap.get? d = some (dictOf (es ++ []) n)
    rw [List.append_nil]
    exact D
  | x :: r, s, es, n, D, hs, hr, hn, h => by
    obtain ⟨hn1, hn2⟩ := List.nodup_cons.mp (show (x.1 :: r.map (·.1)).Nodup from hn)
    rw [List.forIn_cons]
    refine wpAny_bind (wpAny_bind (set_at D (fun e he => hs e he x (.head _)) hr fun h' D' ho hz => wpAny_pure ?_))
    show wpAny (model prog w) A (forIn r PUnit.unit fun x _ => (nsSet d x.1 x.2 >>= fun _ => pure (ForInStep.yield PUnit.unit))) Q E { s with heap := h', toks := s.toks + 1 }
    refine fill_at r { s with heap := h', toks := s.toks + 1 } _ _ D' (fun e he y hy => ?_) (fun e he => ?_) hn2 fun h'' tk D'' ho' hz' => ?_
    · rcases List.mem_append.mp he with he | he
      · exact hs e he y (.tail _ hy)
      · obtain rfl := List.mem_singleton.mp he
        show (x.1 == y.1) = false
        exact beq_eq_false_iff_ne.mpr fun q => hn1 (by rw [q]; exact List.mem_map_of_mem hy)
    · rcases List.mem_append.mp he with he | he
      · exact hr e he
      · obtain rfl := List.mem_singleton.mp he
        rfl
    · refine h h'' tk ?_ (fun b hb => (ho' b hb).trans (ho b hb)) (hz'.trans hz)
      have t2 : n + 1 + r.length = n + (r.length + 1) := by omega
      rw [t2, List.append_assoc] at D''
      exact D''
/-- the entries, as the hand layer's dicts tell them -/
theorem pairs_mix : ∀ (ex : List (Str × Value)) (t : Tok), Pairs (mixKind prog w) (kwEs w.params t ex) (ex.map fun x => (.inr x.1, x.2))
  | [], _ => Pairs.nil
  | x :: r, t => Pairs.cons (mixKind_str prog w x.1 t) rfl (pairs_mix r (t + 1))
theorem dict_mix {h : Heap} {d : Addr} {ex : List (Str × Value)} {t : Tok} {n : Nat} (hn : (ex.map (·.1)).Nodup) (D : h.get? d = some (dictOf (kwEs w.params t ex) n)) : h.DictOf (mixKind prog w) d (ex.map fun x => (.inr x.1, x.2)) := by
  refine ⟨_, (kwEs w.params t ex).toArray, n, D, ⟨rfl, rfl, rfl⟩, rfl, fun e he => ?_, pairs_mix ex t, ?_⟩
  · obtain ⟨k, u, hk, hh⟩ := PySem.W.kwEs_key ex t e (List.mem_toArray.mp he)
    exact ⟨.inr k, by rw [hk]; exact mixKind_str prog w k u, hh.trans rfl⟩
  · rw [List.map_map]
    have e : ((fun x : Key × Value => x.1) ∘ fun x : Str × Value => ((.inr x.1 : Key), x.2)) = (Sum.inr : Str → Key) ∘ (·.1) := rfl
    rw [e, ← List.map_map]
    exact List.Pairwise.map _ (fun a b hab z => hab (Sum.inr.inj z)) hn
end
/-- the dict of the keywords ks with these values -/
def kwD (ks : List Str) (zs : List V) : List (Key × V) := (ks.zip zs).map fun p => (.inr p.1, p.2)
theorem kv_zip : ∀ {ks : List Str} {zs : List V} {ws : List Value}, Vals zs ws → KV (kwD ks zs) ((ks.zip ws).map fun x => (.inr x.1, x.2))
  | [], _, _, _ => .nil
  | _ :: _, _, _, .nil => .nil
  | _ :: ks, _, _, .cons r rr => .cons ⟨rfl, r⟩ (kv_zip (ks := ks) rr)
/-- what a def with **d makes of a call with the keywords ks -/
def FnKw (P : Program) (w : World) (K : PySem.W.Frag) (mg : Str → Option Value) (base : Heap) (CX : CXT) (k : Nat) (f : Addr) (ks : List Str) (sp : Sp) : Prop :=
  ∀ (A : Around) (outer : List Env) (s : Shared) (H : Hp) (us ws : List Value) (vs zs : List V) (Q : VK) (E : XK), Room k A → Env0 P w K mg base A outer s H → Vals vs us → Vals zs ws → zs.length = ks.length →
    (∀ d, H d = none → sp (vs ++ [.ref d]) (upd H d (.dK (kwD ks zs))) Q E) → codeAny (model P w) A (.call (.ref f) ⟨us, ks.zip ws⟩) (CR CX outer P w H s Q E) s
section
variable {CX : CXT} {P : Program} {w : World} {K : PySem.W.Frag} {mg : Str → Option Value} {base : Heap} {k : Nat} {f : Addr} {name qual : Str} {params : Arguments} {body : List Stmt} {scope : Scope} {dV kV doc pm cdv ct oc : Value} {an od : Option Addr}
  {osl : Array (Option Value)} {N ps : List Str} {sp : Sp}
theorem fn_kw {pd : Str} {ks : List Str} (lk : K.lookup f = some ⟨oc, od, .func (PySem.W.fnOf name qual params body scope dV kV doc pm an cdv ct), osl⟩) (hcd : PySem.W.codeIn K cdv qual = true) (S : FnScope N (ps ++ [pd]) scope) (hCX : CXUp CX) (hks : ks.Nodup) (hk60 : ks.length ≤ 60)
    (len : ∀ vs H Q E, sp vs H Q E → vs.length = ps.length + 1)
    (hb : ∀ us ws : List Value, us.length = ps.length → ws.length = ks.length → bindArgs (PySem.W.fnOf name qual params body scope dV kV doc pm an cdv ct) ⟨us, ks.zip ws⟩ =
      ((alloc ({ cls := .type "dict", data := .dict #[] } : Obj) : Sem Addr) >>= fun d => (forIn (ks.zip ws) PUnit.unit fun x _ => (nsSet d x.1 x.2 >>= fun _ => pure (ForInStep.yield PUnit.unit))) >>= fun _ => pure (ps.zip us ++ [(pd, Value.ref d)])))
    (hbody : ∀ (A : Around) (outer : List Env) (s : Shared) (H : Hp) (vs : List V) (Q : VK) (E : XK), Room k (A.deeper (envOfC qual scope s.heap.objs.size f cdv)) → sp vs H Q E →
      ∃ t, PSs (cxOf CX P w K mg base N qual scope f cdv A outer s H E) body t ∧ t { nx := fun _ H' => Q .non H', rt := Q } (start N vs) H) : FnKw P w K mg base CX (k + 1) f ks sp := by
  intro A outer s H us ws vs zs Q E hr e0 r rz hz hq
  have hn : H s.heap.objs.size = none := e0.hok.fresh (Nat.le_refl _)
  have hl : vs.length = ps.length := by
    have e := len _ _ _ _ (hq _ hn)
    rw [List.length_append] at e
    exact Nat.succ.inj e
  have hl1 : us.length = ps.length := by rw [← r.length]; exact hl
  have hl2 : ws.length = ks.length := by rw [← rz.length]; exact hz
  refine run_bnd lk hcd S hr e0 (G := fun xs H2 => ∃ d, H d = none ∧ xs = vs ++ [V.ref d] ∧ H2 = upd H d (.dK (kwD ks zs))) (fun A' Ex Q' h => ?_) fun s2 H2 xs ⟨d, hd, ex, eH⟩ hr' => ?_
  · rw [hb us ws hl1 hl2]
    have D0 : (s.heap.push ({ cls := .type "dict", data := .dict #[] } : Obj)).get? s.heap.objs.size = some (dictOf [] 0) := Heap.get?_push_size _ rfl
    have nd : ((ks.zip ws).map (·.1)).Nodup := by
      have e : (ks.zip ws).map (·.1) = ks := List.map_fst_zip (by omega)
      rw [e]
      exact hks
    refine wpAny_bind (wpAny_alloc (wpAny_bind (fill_at (ks.zip ws) _ [] 0 D0 (fun _ he => nomatch he) (fun _ he => nomatch he) nd fun h' tk D' ho hsz => wpAny_pure ?_)))
    have kp : ∀ b o, s.heap.get? b = some o → h'.get? b = some o := fun b o e => by
      have n := Nat.ne_of_lt (Heap.lt_size e)
      rw [ho b n]
      exact Heap.get?_push_of_some _ e
    have new : ObjOk P w (upd H s.heap.objs.size (.dK (kwD ks zs))) h' s.heap.objs.size (.dK (kwD ks zs)) := by
      refine ⟨?_, ?_, _, kv_zip rz, dict_mix nd D'⟩
      · unfold kwD
        rw [List.length_map, List.length_zip, hz, Nat.min_self, sizeLine_eq]
        omega
      · exact beq_eq_false_iff_ne.mpr (Nat.ne_of_gt (env0_big e0))
    have e1 : Env0 P w K mg base A outer { s with heap := h', toks := tk } (upd H s.heap.objs.size (.dK (kwD ks zs))) := by
      refine ⟨e0.frames, e0.mod, fun b x e => ⟨kp b x (e0.bs b x e).1, ?_⟩, ?_, Heap.FunFrames.of_keeps (fun b x e _ => ⟨x, kp b x e, rfl⟩) e0.funs, fun b hb => ?_, e0.hok.laid kp (Nat.le_refl _) new, e0.bare⟩
      · rw [upd_ne (Nat.ne_of_lt (Heap.lt_size (e0.bs b x e).1))]
        exact (e0.bs b x e).2
      · show base.objs.size ≤ h'.objs.size
        rw [hsz, Heap.size_push]
        exact Nat.le_succ_of_le e0.bsz
      · obtain ⟨_, x, hx, _⟩ := e0.funs.mem hb
        rw [upd_ne (Nat.ne_of_lt (Heap.lt_size hx))]
        exact e0.frf b hb
    have un : Un (frs outer) [] H (upd H s.heap.objs.size (.dK (kwD ks zs))) s.heap h' := Un.laid kp (Nat.le_refl _) hn
    have z := h _ _ (vs ++ [V.ref s.heap.objs.size]) (us ++ [Value.ref s.heap.objs.size]) e1 un rfl (fun e s' => hCX outer s H _ _ E e s' un kp rfl) (r.append (.cons rfl .nil)) (by rw [List.length_append, List.length_append, hl] <;> rfl) ⟨_, hn, rfl, rfl⟩
    rw [List.zip_append hl1.symm] at z
    exact z
  · subst ex eH
    exact hbody A outer s2 _ _ Q E hr' (hq d hd)
end
/-- C(k = v, ..) where __init__ takes **d -/
structure MkW (C : Addr) (ks : List Str) (sp : Sp) (E : XK) (zs : List V) (H1 : Hp) (Q : VK) : Prop where
  len : zs.length = ks.length
  run : ∀ x dx d, H1 x = none → H1 dx = none → dx ≠ x → H1 d = none → d ≠ x → d ≠ dx → sp [.ref x, .ref d] (upd (upd (upd H1 dx (.own x)) x (.ins C dx [])) d (.dK (kwD ks zs))) (fun v H2 => v = .non ∧ Q (.ref x) H2) E
def tMakeW (C : Addr) (ks : List Str) (sp : Sp) (E : L2.St → XK) (tk : TA) : TE := fun σ H Q => tk σ H fun zs H1 => MkW C ks sp (E σ) zs H1 Q
section
variable {X : Cx} {CX : CXT} {k : Nat} {f C : Addr} {ks : List Str} {sp : Sp} {E : L2.St → XK} {x : Str} {p pos : Pos} {kws : List Keyword} {tk : TA}
theorem run_makeW {pins : List (Addr × Obj)} {σ : L2.St} {H : Hp} {s : Shared} {Q : VK} {ws : List Value} {zs : List V} (M : Mk X.K C f) (F : FnKw X.prog X.w X.K X.mg X.base CX k f ks sp) (hr : Room (k + 1) X.A) (hx : PassesAt CX X σ (E σ))
    (I : L2.Inv X pins σ H s) (rz : Vals zs ws) (h : MkW C ks sp (E σ) zs H Q) : wpAny (model X.prog X.w) X.A (call (.ref C) [] (ks.zip ws)) (EP X pins σ Q) X.xe s := by
  have nx : H (s.heap.objs.size + 1) = none := I.hok.fresh (Nat.le_succ _)
  have ndx : H s.heap.objs.size = none := I.hok.fresh (Nat.le_refl _)
  have nn : s.heap.objs.size ≠ s.heap.objs.size + 1 := Nat.ne_of_lt (Nat.lt_succ_self _)
  have I2 := Inv.made (C := C) I
  have hd0 : ∀ d, upd (upd H s.heap.objs.size (.own (s.heap.objs.size + 1))) (s.heap.objs.size + 1) (.ins C s.heap.objs.size []) d = none → sp ([V.ref (s.heap.objs.size + 1)] ++ [.ref d]) (upd (upd (upd H s.heap.objs.size (.own (s.heap.objs.size + 1))) (s.heap.objs.size + 1) (.ins C s.heap.objs.size [])) d (.dK (kwD ks zs)))
      (fun v H2 => v = .non ∧ Q (.ref (s.heap.objs.size + 1)) H2) (E σ) := fun d hd => by
    have n1 : d ≠ s.heap.objs.size + 1 := fun z => by
      rw [z, upd_same] at hd
      cases hd
    have n2 : d ≠ s.heap.objs.size := fun z => by
      rw [z, upd_ne nn, upd_same] at hd
      cases hd
    rw [upd_ne n1, upd_ne n2] at hd
    exact h.run _ _ d nx ndx nn hd n1 n2
  refine wpAny_call (make_map (f := f) I.kIn M.makes M.init (beq_iff_eq.mp M.fn) (codeAny_mono (F _ X.stack _ _ [Value.ref (s.heap.objs.size + 1)] ws [V.ref (s.heap.objs.size + 1)] zs _ (E σ) (hr.make C [] (ks.zip ws)) (I2.env0.make C [] (ks.zip ws)) (.cons rfl .nil) rz h.len hd0) fun r s' hq' => ?_))
  cases r with
  | error e => exact hx pins _ _ e s' I2 hq'
  | ok fl =>
    cases fl with
    | ret u =>
      obtain ⟨v, H', I3, rv, ev, q3⟩ := I2.after hq'
      subst ev
      exact ⟨rv, ⟨V.ref (s.heap.objs.size + 1), H', I3, rfl, q3⟩⟩
    | next => exact False.elim hq'
    | brk => exact False.elim hq'
    | cont => exact False.elim hq'
theorem pe_makeW (M : Mk X.K C f) (F : FnKw X.prog X.w X.K X.mg X.base CX k f ks sp) (hr : Room (k + 1) X.A) (hg : Gl X x) (hm : X.mg x = some (.ref C)) (hx : ∀ σ, PassesAt CX X σ (E σ)) (hkw : PK X kws tk)
    (hall : (backToKw pos (keywordEach kws X.env)).all (·.1.isSome) = true := by rfl) (hks : (backToKw pos (keywordEach kws X.env)).filterMap (·.1) = ks := by rfl) (hdb : (x == ("__debug__" : Str)) = false := by decide)
    (hpl : ((backTo pos (starEach [] X.env)).any (·.1) || (backToKw pos (keywordEach kws X.env)).any (·.1.isNone)) = false := by rfl) :
    PE X (.Call (.Name x p) [] kws pos) (tMakeW C ks sp E tk) := by
  refine ⟨fun pins s σ H Q I h => ?_⟩
  refine wpAny_Call_Name_kw (ld_glob I hg hm ?_ hdb)
  refine PySem.W.callWith_KW0 (h₀ := X.base) I.ok.mod.kin M.kp hall ?_ hpl
  refine thn (hkw.run pos pins s σ H _ I h) fun ws s2 ⟨zs, H2, I2, rz, q2⟩ => ⟨I2.kIn, ?_⟩
  rw [hks]
  exact run_makeW M F hr (hx σ) I2 rz q2
/-- C() -/
theorem pe_makeW0 (M : Mk X.K C f) (F : FnKw X.prog X.w X.K X.mg X.base CX k f [] sp) (hr : Room (k + 1) X.A) (hg : Gl X x) (hm : X.mg x = some (.ref C)) (hx : ∀ σ, PassesAt CX X σ (E σ)) (hdb : (x == ("__debug__" : Str)) = false := by decide) :
    PE X (.Call (.Name x p) [] [] pos) (tMakeW C [] sp E tNil) := by
  refine ⟨fun pins s σ H Q I h => ?_⟩
  refine wpAny_Call_Name_kw (ld_glob I hg hm ?_ hdb)
  exact PySem.W.callWith_K0 I.kIn M.kp (run_makeW (ws := []) M F hr (hx σ) I .nil h)
end
end KwX

/-! Several except clauses, each with a name for the error. -/
namespace TryAs
open PySem PySem.Spec PyProof.Rows L2
abbrev Su := Addr → Value → Option Addr → TS
/-- the ends of a suite whose name in slot i goes behind it -/
def endsOf (i : Nat) (D : Ends) : Ends := { nx := fun σ' H' => D.nx (σ'.set i none) H', rt := D.rt, bk := fun σ' H' => D.bk (σ'.set i none) H', ct := fun σ' H' => D.ct (σ'.set i none) H' }
/-- what the clauses wish of an error, from the first on: class, slot of the name, suite -/
def wAsM (K : PySem.W.Frag) (Wout : WX) (D : Ends) : List (Value × Nat × Su) → WX
  | [] => Wout
  | (c, i, ts) :: r => fun cls d σ H => ∃ b, PySem.W.exmOne K cls c = some b ∧ (b = true → ∀ a, H a = none → ts a cls d (endsOf i D) (σ.set i (some (.ref a))) H) ∧ (b = false → wAsM K Wout D r cls d σ H)
inductive Hds (X : Cx) : List ExceptHandler → List (Value × Nat × Su) → Prop
  | nil : Hds X [] []
  | cons {x n : Str} {c : Value} {i : Nat} {ts : Su} {b₀ : Stmt} {suite : List Stmt} {np pos' : Pos} {hds : List ExceptHandler} {l : List (Value × Nat × Su)} (hi : X.N[i]? = some n) (hln : X.env.kindOf n = some .local) (hc : Names X x c)
      (hsu : ∀ (a : Addr) (oe : Obj) (cls : Value) (d : Option Addr) (pn : List (Addr × Obj)), Zc cls d oe → (∃ vs, oe.data = .fields vs) → PSs (X.suite a ((a, oe) :: pn)) (b₀ :: suite) (ts a cls d)) (r : Hds X hds l) :
      Hds X (.ExceptHandler (some (.Name x np)) (some n) (b₀ :: suite) pos' :: hds) ((c, i, ts) :: l)
section
variable {X : Cx} {body : List Stmt} {h₀ : ExceptHandler} {hds : List ExceptHandler} {l : List (Value × Nat × Su)} {pos : Pos} {tb : WX → TS} {Wout : WX}
theorem ps_try_asM (hs : X.stack = X.env :: X.outer) (hf : X.env.frame = some X.env.locals) (hN : X.N.Nodup) (tk : Takes X Wout)
    (hb : ∀ (W : WX) (pn : List (Addr × Obj)) (xe : Value → Shared → Prop), Takes (X.tr pn xe) W → PassesOwn (model X.prog X.w) X.A X.env xe → PSs (X.tr pn xe) body (tb W))
    (hh : Hds X (h₀ :: hds) l) : PS X (.Try body (h₀ :: hds) [] [] pos) (fun D σ H => tb (wAsM X.K Wout D l) D σ H) := by
  refine ⟨fun pins s σ H D I h => wpAny_Try_except ?_⟩
  have ok := I.ok
  have hfr : X.A.frames = some (X.env :: X.outer) := by rw [ok.frames, hs]
  refine wpAny_mono ((hb (wAsM X.K Wout D l) (X.pn ++ pins) (fun e s₁ => wpAny (model X.prog X.w) X.A (noteFrame e X.env) (fun _ s₂ => wpAny (model X.prog X.w) X.A (setFlight e none) (fun _ s₃ =>
    wpAny (model X.prog X.w) X.A (handleBy e X.env (h₀ :: hds)) (SP X pins D) X.xe s₃) X.xe s₂) X.xe s₁) (fun u s' xx => ?_) PassesOwn.looking).run [] s σ H D (I.toTry _) h) (fun f s1 hsp => ?_) (fun e s1 he => he)
  · obtain ⟨a, B, sI, pins', σ', H', cls, d, rfl, J', nb, up, sky, na, os, ag, w⟩ := xx
    have J : Inv X pins σ' H' sI := J'.ofTry ok
    show wpAny (model X.prog X.w) X.A (noteFrame (.ref a) X.env) _ _ _
    refine Sky.land Zc.steady hfr hf (show Sky B (X.env :: X.outer) a (Zc cls d) X.env.locals s'.heap by rw [← hs]; exact sky) fun h3 fl3 up3 => ?_
    have J3 : Inv X pins σ' H' { s' with heap := h3 } := J.landed nb fl3.1 (up.trans up3) os ag
    obtain ⟨oe3, vs3, he3, hz3, hd3⟩ := fl3.there
    have nfr : a ∉ frs (X.env :: X.outer) := fun hm => by
      obtain ⟨_, o', e', hnf⟩ := fl3.2.2.1.mem hm
      rw [he3] at e'
      cases e'
      exact hnf _ hd3
    have nL : a ≠ X.env.locals := fun z => nfr (List.mem_filterMap.mpr ⟨X.env, List.mem_cons_self, by rw [hf, z]⟩)
    have nF : a ∉ X.fs := fun hm => by
      obtain ⟨e, he, q⟩ := List.mem_filterMap.mp hm
      exact nfr (List.mem_filterMap.mpr ⟨e, List.mem_cons_of_mem _ he, q⟩)
    have S3 := J3.suite he3 hd3 na nL nF
    have go : ∀ {hds' : List ExceptHandler} {l' : List (Value × Nat × Su)}, Hds X hds' l' → wAsM X.K Wout D l' cls d σ' H' →
        wpAny (model X.prog X.w) X.A (handleBy (.ref a) X.env hds') (SP X pins D) X.xe { s' with heap := h3 } := fun {hds' l'} hk => by
      induction hk with
      | nil =>
        intro w
        refine wpAny_handleBy_nil ?_
        obtain ⟨k1, k2, k3, oe, vs, T, oT, ts', he, hz, hd, h1, hr⟩ := id fl3
        unfold PySem.passOn
        refine wpAny_bind (wpAny_field he hd h1 ?_)
        rw [if_neg (show ¬ ((Value.ref T == Value.none) = true) from by simp)]
        have fin : wpAny (model X.prog X.w) X.A (setFlight (.ref a) X.env.frame) (fun _ s4 => wpAny (model X.prog X.w) X.A (throw (.ref a) : Sem Flow) (SP X pins D) X.xe s4) X.xe { s' with heap := h3 } := by
          rw [hf]
          exact HandSPX.setFlight_upZ fl3 fun h4 hh4 up4 => wpAny_throw (tk _ _ ⟨a, B, sI, pins, σ', H', cls, d, rfl, J, nb, (up.trans up3).trans up4, .inr (.inr (by rw [hs]; exact hh4)), na, os, ag, w⟩)
        first
          | exact wpAny_bind (wpAny_pure (wpAny_bind fin))
          | exact wpAny_bind fin
      | @cons x n c i ts b₀ suite np pos' hds2 l2 hi hln hc hsu r ih =>
        intro w
        obtain ⟨b, hb1, hyes, hno⟩ := w
        refine wpAny_handleBy_cons (codeAny_handlers_test ?_) (by intro q; cases q)
        have LT : PySem.W.Looks (model X.prog X.w) h3 (typeOf (.ref a)) cls := fun A Q E s k q => wpAny_typeOf_ref (k _ _ he3) (by rw [hz3.1]; exact q)
        have LM := PySem.W.exm_one (M := model X.prog X.w) (J3.kIn) LT hb1
        have test : ∀ {Q : Value → Shared → Prop} {E : Value → Shared → Prop}, Q c { s' with heap := h3 } → wpAny (model X.prog X.w) (X.A.mark (some (.ref a))) (eval (.Name x np) X.env) Q E { s' with heap := h3 } := fun {Q E} q => by
          obtain ⟨hg, hdbg, hm | ⟨hm, hv, hnn⟩⟩ := hc
          · exact ld_glob (X := X.suite a ((a, oe3) :: (X.pn ++ pins))) S3 hg hm q hdbg
          · exact ld_blt (X := X.suite a ((a, oe3) :: (X.pn ++ pins))) S3 hg hm hv q hnn hdbg
        refine test (LM.here ?_)
        cases b with
        | false => exact ih (hno rfl)
        | true =>
          refine codeAny_handlers_suite_as (HandSPX.lands_againZ fl3 fun h4 fl4 up4 => ?_)
          have J4 : Inv X pins σ' H' { s' with heap := h4 } := J.landed nb fl4.1 ((up.trans up3).trans up4) os ag
          obtain ⟨oe4, vs4, he4, hz4, hd4⟩ := fl4.there
          refine store_ok (X := X.suite a ((a, oe4) :: (X.pn ++ pins))) (v := .ref a) (J4.suite he4 hd4 na nL nF) hN hi (.inl hln) rfl (fun s5 S5 => ?_) (.inr hln)
          refine wpAny_mono ((hsu a oe4 cls d (X.pn ++ pins) hz4 ⟨_, hd4⟩).run [] s5 _ H' _ S5 (hyes rfl a na)) (fun f s6 hsp => ?_) (fun _ _ z => False.elim z)
          cases f with
          | next =>
            obtain ⟨σ6, H6, S6, q6⟩ := hsp
            exact gone_ok (S6.unsuite ok) hN hi hln fun s7 J7 => ⟨_, _, J7, q6⟩
          | brk =>
            obtain ⟨σ6, H6, S6, q6⟩ := hsp
            exact gone_ok (S6.unsuite ok) hN hi hln fun s7 J7 => ⟨_, _, J7, q6⟩
          | cont =>
            obtain ⟨σ6, H6, S6, q6⟩ := hsp
            exact gone_ok (S6.unsuite ok) hN hi hln fun s7 J7 => ⟨_, _, J7, q6⟩
          | ret u =>
            obtain ⟨v6, σ6, H6, S6, r6, q6⟩ := hsp
            exact gone_ok (S6.unsuite ok) hN hi hln fun s7 J7 => ⟨_, _, _, J7, r6, q6⟩
    exact go hh w
  · cases f with
    | next =>
      obtain ⟨σ', H', J', q⟩ := hsp
      exact wpAny_execs_nil ⟨σ', H', J'.ofTry ok, q⟩
    | brk =>
      obtain ⟨σ', H', J', q⟩ := hsp
      exact ⟨σ', H', J'.ofTry ok, q⟩
    | cont =>
      obtain ⟨σ', H', J', q⟩ := hsp
      exact ⟨σ', H', J'.ofTry ok, q⟩
    | ret u =>
      obtain ⟨v, σ', H', J', r, q⟩ := hsp
      exact ⟨v, σ', H', J'.ofTry ok, r, q⟩
end
end TryAs

/-! len and in of instances by their own defs; methods that raise, in a try. -/
namespace Own
open PySem PySem.Spec PyProof.Rows L2
section
variable {X : Cx} {CX : CXT} {k : Nat} {C g : Addr} {sp : Sp} {E : XK}
def rLenO (C : Addr) (sp : Sp) (E : XK) : List V → Hp → VK → Prop := fun xs H Q => ∃ a dx fs, xs = [.ref a] ∧ H a = some (.ins C dx fs) ∧ sp [.ref a] H (fun v H' => ∃ n : Nat, v = .int n ∧ n < 2 ^ 62 ∧ Q v H') E
theorem call_lenO (F : FnR X.prog X.w X.K X.mg X.base CX k g sp) (hs : PySem.W.findIn X.K (.ref C) "__len__" = some (some (.ref g))) (hf : PySem.W.isFn X.K (.ref g) = true)
    (hr : Room (k + 1) X.A) (hx : Passes CX X E) : CallR X (.builtin "len") (rLenO C sp E) := by
  intro pins s σ H xs us Q I r h
  obtain ⟨a, dx, fs, rfl, ha, hsp⟩ := h
  obtain ⟨u, rfl, r1⟩ : ∃ u, us = [u] ∧ RelV (.ref a) u := by
    cases r with
    | cons r1 rr =>
      cases rr
      exact ⟨_, rfl, r1⟩
  cases r1
  obtain ⟨mA, J, _⟩ := ins_get I.hok ha
  obtain ⟨od, J, _⟩ := J.look
  obtain ⟨m, hF⟩ := I.fr
  refine PySem.W.len_K hF I.ok.mod.kin J hs hf (wpAny_mono (run_at F hr.in1 I.env0.frames hx I (us := [.ref a]) (vs := [.ref a]) (.cons rfl .nil) hsp) (fun u s' z => ?_) fun _ _ z => z)
  obtain ⟨v, H', I', rv, n, rfl, hn, q⟩ := z
  obtain ⟨t, rfl⟩ := rv
  exact ⟨⟨by omega, by omega⟩, .int n, H', I'.tok _, ⟨_, rfl⟩, q⟩
/-- x in o, o an instance -/
def rInO (C : Addr) (sp : Sp) (E : XK) : R2 := fun x y H Q => ∃ a dx fs, y = .ref a ∧ H a = some (.ins C dx fs) ∧ sp [.ref a, x] H (fun v H' => ∃ t, v = .bl t ∧ Q v H') E
theorem op_inO (F : FnR X.prog X.w X.K X.mg X.base CX k g sp) (hs : PySem.W.findIn X.K (.ref C) "__contains__" = some (some (.ref g))) (hf : PySem.W.isFn X.K (.ref g) = true)
    (hr : Room k X.A) (hx : Passes CX X E) : OpR X (compareOp .In) (rInO C sp E) := by
  intro pins s σ H x y v u Q I rx ry h
  obtain ⟨a, dx, fs, rfl, ha, hsp⟩ := h
  cases ry
  obtain ⟨mA, J, _⟩ := ins_get I.hok ha
  obtain ⟨od, J, _⟩ := J.look
  obtain ⟨m, hF⟩ := I.fr
  refine PySem.W.in_K hF I.ok.mod.kin J hs hf ?_
  refine wpAny_mono (run_at F hr I.env0.frames hx I (us := [.ref a, v]) (vs := [.ref a, x]) (.cons rfl (.cons rx .nil)) hsp) (fun u s' z => ?_) fun _ _ z => z
  obtain ⟨w, H', I', rv, t, rfl, q⟩ := z
  cases rv
  exact wpAny_truthy_bool ⟨.bl t, H', I', rfl, q⟩
end
section
variable {X : Cx} {CX : CXT} {k : Nat} {C f : Addr} {sp : Sp} {E : L2.St → XK} {m : Str} {o e : Expr} {es : List Expr} {t : TA} {ta : TE} {p pos apos : Pos}
/-- o.m(e, ..) that may raise, at the slots σ -/
def tMethS (C : Addr) (m : Str) (sp : Sp) (E : L2.St → XK) (ta : TE) (t : TA) : TE := fun σ H Q => ta σ H fun x H1 => ∃ a dx fs, x = .ref a ∧ H1 a = some (.ins C dx fs) ∧ fs.lookup m = none ∧ t σ H1 fun vs H2 => sp (x :: vs) H2 Q (E σ)
theorem pe_methW {pl : Sem Bool} (he : PE X o ta) (c : Cls X.K C) (hm : Meth X.K C m f) (F : FnR X.prog X.w X.K X.mg X.base CX k f sp) (hr : Room k X.A) (hx : ∀ σ, PassesAt CX X σ (E σ)) (ha : PA X (e :: es) t)
    (hst : starEach (e :: es) X.env = (false, eval e X.env) :: starEach es X.env := by rfl) (hpl : (backTo pos (starEach es X.env)).any (·.1) = false := by rfl)
    (ht : eval (.Call (.Attribute o m apos) (e :: es) [] pos) X.env = (do
      let ov ← eval o X.env
      standAt apos.atName
      let (f, first) ← holding [ov] (getMethod ov m pl)
      callWith pos f first (backTo pos (starEach (e :: es) X.env)) (backToKw pos (keywordEach [] X.env))) := by rfl) :
    PE X (.Call (.Attribute o m apos) (e :: es) [] pos) (tMethS C m sp E ta t) := by
  refine ⟨fun pins s σ H Q I h => ?_⟩
  refine PySem.W.methodCall_KW (pl := pl) (thn (he.run pins s σ H _ I h) fun u s1 ⟨x, H1, I1, rx, a, dx, fs, ex, ea, l, q⟩ => ?_) ht
  subst ex
  obtain rfl : u = Value.ref a := rx
  refine getmeth_ok I1 ea c hm l ?_
  refine PySem.W.callWith_K (first := [.ref a]) (h₀ := X.base) I.ok.mod.kin hm.kp (thn (ha.run pos pins s1 σ H1 _ I1 q) fun us s2 ⟨vs, H2, I2, r, q2⟩ => ⟨I2.kIn, ?_⟩) hst hpl
  exact wpAny_call (run_fnRS (us := .ref a :: us) (vs := .ref a :: vs) F hr (hx σ) I2 (.cons rfl r) q2)
end
end Own

/-! A list comprehension whose element may raise: the exception of a call in it goes on in the def's own air. -/
namespace CompX
open PySem PySem.Spec PyProof.Rows L2
section
variable {X : Cx} {W : WX} {pins : List (Addr × Obj)} {σ : L2.St} {H3 : Hp} {s3 : Shared} {scope : Scope} {ce : Env} {fp : List Addr} {use : Option (Value → Sem Unit)} {Qf : Value → Shared → Prop} {D : Addr}
/-- where the block's exceptions go -/
def airOf (X : Cx) (ce : Env) (use : Option (Value → Sem Unit)) (Qf : Value → Shared → Prop) (D : Addr) : Value → Shared → Prop :=
  notedBy (model X.prog X.w) X.A ce fun e s' => compEnds (model X.prog X.w) X.A X.xe use Qf (.ref D) ce (.error e) s'
theorem air (hst : X.stack = X.env :: X.outer) (hfr : X.env.frame = some X.env.locals) (tk : Takes X W) (I3 : L2.Inv X pins σ H3 s3) (hL : ce.locals = s3.heap.objs.size) (hce : ce.frame = X.env.frame)
    (hfp : ∀ b ∈ fp, FpOk X pins H3 b) {pn : List (Addr × Obj)} {τ : L2.St} {H : Hp} {s : Shared} {e : Value} {s' : Shared} (J0 : L2.Inv ((X.blk s3 H3 scope ce fp).tr [] (airOf X ce use Qf D)) pn τ H s)
    (c : L2.CX X.prog X.w X.stack H s (fun cls d H' => W cls d σ H') e s') : airOf X ce use Qf D e s' := by
  have c0 := c
  obtain ⟨a, _, _, _, _, rfl, fly, _⟩ := c
  obtain ⟨a', B, sI, pn2, τ2, H2, cls, d, ea, J, nb, up, sky, na, os, ag, w⟩ := XE.of_call (X := (X.blk s3 H3 scope ce fp).tr [] (airOf X ce use Qf D)) (W := fun cls d _ H' => W cls d σ H') J0 (fun _ _ _ z => z) c0
  cases ea
  have nb : ∀ b o, sI.heap.get? b = some o → b ∉ frs X.stack → B.get? b = some o := nb
  have fl : HandSPX.FlyingZ B (X.env :: X.outer) a (Zc cls d) s'.heap := by
    have sky : Sky B X.stack a (Zc cls d) ce.locals s'.heap := sky
    rw [hst] at sky
    obtain ⟨_, _, _, o2, v2, T2, t2, ts2, g1, _, g3, g4, _, _, g7, g8, g9⟩ := fly
    rcases sky with ⟨_, _, _, o1, v1, k1, _, k3, k4⟩ | z | ⟨_, _, _, o1, v1, T1, t1, ts1, k1, _, k3, k4, _, _, k7, k8, k9⟩
    · rw [g1] at k1
      cases k1
      rw [g3] at k3
      cases k3
      rw [g4] at k4
      cases k4
    · exact z
    · rw [g1] at k1
      cases k1
      rw [g3] at k3
      cases k3
      rw [g4] at k4
      cases k4
      rw [g7] at k7
      cases k7
      rw [g8] at k8
      cases k8
      rw [g9] at k9
      cases k9
  obtain ⟨m, nsI, _⟩ := J.loc
  have nsI : sI.heap.Ns ce.locals m := nsI
  have fA : X.A.frames = some (X.env :: X.outer) := by rw [I3.ok.frames, hst]
  show wpAny _ _ (noteFrame (.ref a) ce) _ _ _
  rw [noteFrame_env _ hce]
  refine HandSPX.looks_onZ Zc.steady fA hfr fl fun h1 hh up1 => ?_
  have ns1 : h1.Ns ce.locals m := Heap.Ns.upToSlots nsI (up.trans up1)
  have goal : CompFails (model X.prog X.w) X.A X.xe ce (.ref a) { s' with heap := h1 } := by
    refine ⟨m, ns1, fun h2 m2 ns2 sb => ?_⟩
    obtain ⟨y1, y2, y3, oe, vs, T, oT, ts, he, hz, hd, hv, hnT, hTe, hT, hdT, h3⟩ := hh
    have ofC : ∀ {b : Addr} {o : Obj} {us : Array Value}, h1.get? b = some o → o.data = .fields us → b ≠ ce.locals := fun {b o us} q1 q2 z => by
      obtain ⟨oL, _, _, r1, r2, _⟩ := ns1
      rw [z, r1] at q1
      cases q1
      rw [r2] at q2
      cases q2
    have keep : ∀ {b : Addr}, b ≠ ce.locals → h2.get? b = h1.get? b := fun {b} n => sb.2 b n
    have nC : H2 ce.locals = none := J.free
    have hid : ∀ {h : Heap} {b : Addr} {o : Obj}, (PySem.W.hideAll h [ce.locals]).get? b = some o → b ≠ ce.locals ∧ h.get? b = some o := fun {h b o} q =>
      ⟨fun z => (by
        rw [z, PySem.W.hideAll_none _ List.mem_cons_self] at q
        cases q), PySem.W.of_hideAll _ q⟩
    have hidN : ∀ {h : Heap} {b : Addr}, h.get? b = none → (PySem.W.hideAll h [ce.locals]).get? b = none := fun {h b} q => by
      cases z : (PySem.W.hideAll h [ce.locals]).get? b with
      | none => rfl
      | some o =>
        rw [(hid z).2] at q
        cases q
    have held : HandSPX.HeldZ (PySem.W.hideAll B [ce.locals]) (X.env :: X.outer) a (Zc cls d) X.env.locals h2 := by
      refine ⟨fun b o q => ?_, hidN y2, ?_, oe, vs, T, oT, ts, (keep (ofC he hd)).trans he, hz, hd, hv, hidN hnT, hTe, (keep (ofC hT hdT)).trans hT, hdT, h3⟩
      · obtain ⟨n, q'⟩ := hid q
        exact (keep n).trans (y1 b o q')
      · exact funFrames_none (Heap.FunFrames.sameBut sb ns2 y3) fun b hb => hidN (y3.mem hb).1
    have I7 : L2.Inv X pins σ H2 sI := I3.call' (ch := fp) J.os J.base J.hok J.bare fun b hb => by
      obtain ⟨_, z1, _, z3, z4, z5⟩ := hfp b hb
      exact ⟨z3, z1, z4, z5⟩
    obtain ⟨f0, f1, f2, f3, f4, f5⟩ := I3.fpOk (b := ce.locals) (Nat.le_of_eq hL.symm) nC
    have I8 := I7.turned (t' := sI.toks) (it := ce.locals) (h' := PySem.W.hideAll sI.heap [ce.locals]) (fun b o n q => PySem.W.hideAll_get _ q (by simpa using n)) f0 f1 f3 f4 f5
    unfold PySem.passOn
    refine wpAny_bind (wpAny_field ((keep (ofC he hd)).trans he) hd hv ?_)
    rw [if_neg (show ¬ ((Value.ref T == Value.none) = true) from by simp)]
    have fin : wpAny (model X.prog X.w) X.A (setFlight (.ref a) ce.frame) (fun _ s4 => wpAny (model X.prog X.w) X.A (throw (.ref a) : Sem Value) (fun _ _ => False) X.xe s4) X.xe { s' with heap := h2 } := by
      rw [hce, hfr]
      refine HandSPX.setFlight_onZ held fun h4 hh4 up4 => wpAny_throw (tk _ _ ⟨a, PySem.W.hideAll B [ce.locals], _, pins, σ, H2, cls, d, rfl, I8, fun b o q n => ?_, fun b o q n => ?_, .inr (.inr (by rw [hst]; exact hh4)), na, os, ag, w⟩)
      · obtain ⟨n1, q'⟩ := hid q
        exact PySem.W.hideAll_get _ (nb b o q' n) (by simpa using n1)
      · obtain ⟨n1, q'⟩ := hid q
        obtain ⟨sl, q2⟩ := (up.trans up1) b o q' n
        obtain ⟨sl2, q3⟩ := up4 b _ ((keep n1).trans q2) n
        exact ⟨sl2, q3⟩
    first
      | exact wpAny_bind (wpAny_pure (wpAny_bind fin))
      | exact wpAny_bind fin
  cases use with
  | none => exact goal
  | some u => exact goal
end
/-- the block's context, its exceptions going to xe -/
abbrev Blk (X : Cx) (s : Shared) (H : Hp) (scope : Scope) (ce : Env) (fp : List Addr) (xe : Value → Shared → Prop) : Cx := (X.blk s H scope ce fp).tr [] xe
section
variable {X : Cx} {W : WX} {elt tg iter : Expr} {ifs : List Expr} {scope : Scope} {own : List (Str × Nat)} {wi : TI} {g : TG} {tt : TT} {te : XK → TE}
/-- what the parts of the comprehension are, in whatever block -/
structure Parts (X : Cx) (elt tg iter : Expr) (ifs : List Expr) (scope : Scope) (own : List (Str × Nat)) (wi : TI) (g : TG) (tt : TT) (te : XK → TE) : Prop where
  calm : X.calm = true
  nd : X.N.Nodup
  it : PI X tg iter wi
  ok : BlkOk X.N X.env.scope scope own
  tgt : ∀ s H C cl fp xe, PG (Blk X s H scope (compEnvC scope cl C X.env) fp xe) tg g
  tst : ∀ s H C cl fp xe, PTs (Blk X s H scope (compEnvC scope cl C X.env) fp xe) ifs tt
  elm : ∀ s H C cl fp xe (E : XK), (∀ τ, PassesAt (L2.CX X.prog X.w) (Blk X s H scope (compEnvC scope cl C X.env) fp xe) τ E) → PE (Blk X s H scope (compEnvC scope cl C X.env) fp xe) elt (te E)
  fold : ∀ x, foldedSetIterable iter X.env x = pure x
theorem core {pins : List (Addr × Obj)} {s : Shared} {σ : L2.St} {H : Hp} {Q : VK} {pos pos' : Pos} {use : Option (Value → Sem Unit)} {Qf : Value → Shared → Prop} (hst : X.stack = X.env :: X.outer) (hfr : X.env.frame = some X.env.locals) (tk : Takes X W)
    (P : Parts X elt tg iter ifs scope own wi g tt te) (I : L2.Inv X pins σ H s) (h : tLc wi g tt (te fun cls d H' => W cls d σ H') (own.map (·.2)) σ H Q)
    (hRR : ∀ (D : Addr) (ce : Env) s' m H', L2.Inv X pins σ H' s' → Q (.ref D) H' → s'.heap.Ns ce.locals m → FpOk X pins H' ce.locals → compEnds (model X.prog X.w) X.A X.xe use Qf (.ref D) ce (.ok .next) s') :
    wpAny (model X.prog X.w) X.A (comprehension (.ListComp elt [⟨tg, iter, ifs, 0⟩] scope pos) scope X.env pos' (newList []) false (eval iter X.env) use) Qf X.xe s := by
  have ok := P.ok
  have free : ∀ y ∈ scope.names, y.2 = .free → ∃ c, X.env.cells.lookup y.1 = some c := fun y hy e => (ok.free y hy e).elim (fun k => I.ok.has _ (.inl k)) fun k => I.ok.has _ (.inr k)
  refine comprehension_at (use := use) rfl P.fold (closure_ok free) ok.kind (fun y hy e => (ok.uniq y hy).trans (congrArg some e))
    (thn (P.it.run pins s σ H _ I h) fun v0 s1 k1 => thn k1 fun v1 s2 k2 => ?_)
  obtain ⟨it, fp, tn, J, H2, rfl, I2, T, t2, f2, q⟩ := k2
  refine wpAny_newObj_type (newEnv_comp ?_) (by show 0 ≤ sizeLine; decide)
  obtain ⟨D, hD⟩ : ∃ D, D = s2.heap.objs.size := ⟨_, rfl⟩
  rw [← hD]
  have nD : H2 D = none := I2.hok.fresh (Nat.le_of_eq hD.symm)
  obtain ⟨Wv, ⟨m0, w0⟩, turn⟩ := q D nD
  obtain ⟨s3, hs3⟩ : ∃ s3 : Shared, s3 = { s2 with heap := s2.heap.push { cls := .type "list", data := .seq ([] : List Value).toArray } } := ⟨_, rfl⟩
  have I3 : L2.Inv X pins σ (upd H2 D (.lst [])) s3 := by
    subst hs3 hD
    exact I2.laid (t' := s2.toks) (fun b o e => Heap.get?_push_of_some _ e) (Nat.le_refl _) ⟨Nat.zero_le _, [], 0, .nil, Heap.get?_push_size _ rfl⟩
  have old : ∀ b o, s2.heap.get? b = some o → s3.heap.get? b = some o := fun b o e => by
    rw [hs3]
    exact Heap.get?_push_of_some _ e
  have lt2 : ∀ b ∈ fp, b < s2.heap.objs.size := fun b hb => by
    obtain ⟨o, e, _⟩ := T.obj _ _ t2 b hb
    exact Heap.lt_size e
  have f3 : ∀ b ∈ fp, FpOk X pins (upd H2 D (.lst [])) b ∧ b < s3.heap.objs.size := fun b hb => by
    have l := lt2 b hb
    refine ⟨⟨(upd_ne (by rw [hD]; exact Nat.ne_of_lt l)).trans (f2 b hb).1, (f2 b hb).2⟩, ?_⟩
    rw [hs3]
    show b < (s2.heap.push _).objs.size
    rw [Heap.size_push]
    exact Nat.lt_succ_of_lt l
  have t3 : tn 0 s3.heap := T.keep _ _ _ t2 fun b _ o e => old b o e
  have I4 := block_start I3 ok P.nd f3
  obtain ⟨H3, hH3⟩ : ∃ H3, H3 = upd H2 D (.lst []) := ⟨_, rfl⟩
  rw [← hH3] at I3 I4 f3 w0
  obtain ⟨cl, hcl⟩ : ∃ cl, cl = cellsFrom (s3.heap.objs.size + 1) scope.names (cloFrom X.env.cells scope.names []) := ⟨_, rfl⟩
  rw [← hcl] at I4
  have pgT := P.tgt s3 H3 s3.heap.objs.size cl fp
  have ptT := P.tst s3 H3 s3.heap.objs.size cl fp
  have peT := P.elm s3 H3 s3.heap.objs.size cl fp
  obtain ⟨s4, hs4⟩ : ∃ s4 : Shared, s4 = { s3 with heap := pushCells (s3.heap.push { cls := .type "dict", data := .dict #[] }) scope.names } := ⟨_, rfl⟩
  rw [← hs4] at I4
  have t4 : tn 0 s4.heap := T.keep _ _ _ t3 fun b _ o e => by
    rw [hs4]
    exact pushCells_keeps _ _ _ _ (Heap.get?_push_of_some _ e)
  have key : codeAny (model X.prog X.w) X.A (.compStart (.ListComp elt [⟨tg, iter, ifs, 0⟩] scope pos) 0 (.ref it) (.ref D) (compEnvC scope cl s3.heap.objs.size X.env))
      (compEnds (model X.prog X.w) X.A X.xe use Qf (.ref D) (compEnvC scope cl s3.heap.objs.size X.env)) s4 := by
    obtain ⟨ce, hce⟩ : ∃ ce, ce = compEnvC scope cl s3.heap.objs.size X.env := ⟨_, rfl⟩
    rw [← hce] at I4 pgT ptT peT ⊢
    have cL : ce.locals = s3.heap.objs.size := by rw [hce]; rfl
    have cF : ce.frame = X.env.frame := by rw [hce]; rfl
    obtain ⟨xe, hxe⟩ : ∃ xe, xe = airOf X ce use Qf D := ⟨_, rfl⟩
    have pass : ∀ τ, PassesAt (L2.CX X.prog X.w) (Blk X s3 H3 scope ce fp xe) τ (fun cls d H' => W cls d σ H') := fun τ pn Hc sc e s' Ic c => by
      subst hxe
      exact air hst hfr tk I3 cL cF (fun b hb => (f3 b hb).1) Ic c
    have I4' : L2.Inv (Blk X s3 H3 scope ce fp xe) [] (wipe σ (own.map (·.2))) H3 s4 := I4.toTry xe
    have nfp : ∀ b ∈ fp, H3 b = none := fun b hb => (f3 b hb).1.1
    have stat : ∀ {τ : L2.St} {H' : Hp} {s' : Shared}, L2.Inv (Blk X s3 H3 scope ce fp xe) [] τ H' s' → (∀ b ∈ fp, H' b = none) → ∀ b ∈ fp, FpOk (Blk X s3 H3 scope ce fp xe) [] H' b := fun {τ H' s'} I' hn b hb =>
      ⟨hn b hb, (I'.ok.exf b hb).1, I'.ok.exfs b hb, .inl hb, fun x c e => (I'.ok.exf b hb).2 x c e, fun p hp => nomatch (show p ∈ ([] : List (Addr × Obj)) from hp)⟩
    have loop : codeAny (model X.prog X.w) X.A (.compLoop (.ListComp elt [⟨tg, iter, ifs, 0⟩] scope pos) 0 (.ref it) (.ref D) ce) (compEnds (model X.prog X.w) X.A X.xe use Qf (.ref D) ce) s4 := by
      refine compLoop_any (fun n s' => ∃ i H', L2.Inv (Blk X s3 H3 scope ce fp xe) [] (wipe σ (own.map (·.2))) H' s' ∧ tn i s'.heap ∧ (∀ b ∈ fp, H' b = none) ∧ Wv i n H') ?_ m0 ⟨0, H3, I4', t4, nfp, w0⟩
      rintro n s5 ⟨i, H5, I5, t5, n5, w5⟩
      rcases turn i n H5 w5 with ⟨stop, qq⟩ | ⟨go, Nx, hNx, step⟩
      · refine thnF (T.done (Blk X s3 H3 scope ce fp xe) rfl rfl rfl P.calm i [] s5 _ H5 (fun _ _ => False) I5 (stat I5 n5) t5 stop) fun r s6 ⟨hr, I6⟩ => ?_
        subst hr
        have I7 : L2.Inv X pins σ H5 s6 := I3.call' (ch := fp) I6.os I6.base I6.hok I6.bare fun b hb => by
          obtain ⟨_, z1, _, z3, z4, z5⟩ := (f3 b hb).1
          exact ⟨z3, z1, z4, z5⟩
        have nC : H5 ce.locals = none := I6.free
        obtain ⟨m, hn, _⟩ := I6.loc
        exact hRR D ce s6 m H5 I7 qq hn (I3.fpOk (Nat.le_of_eq cL.symm) nC)
      · refine thnF (T.item (Blk X s3 H3 scope ce fp xe) rfl rfl rfl P.calm i [] s5 _ H5 (fun _ _ => False) I5 (stat I5 n5) t5 go) fun r s6 ⟨u, hr, h6⟩ => ?_
        subst hr
        refine thnF h6 fun _ s7 ⟨x, H7, I7, r7, y7, t7, n7⟩ => ?_
        have I7' := I7.pinned (stat I7 n7) (T.obj _ _ t7)
        subst hxe
        refine thn ((pgT _).run _ s7 _ H7 x u _ I7' r7 (step x H7 y7)) fun _ s8 ⟨τ, H8, I8, hw, q8⟩ => ?_
        refine thn ((ptT _).run _ s8 τ H8 _ I8 q8) fun b s9 ⟨H9, I9, q9⟩ => ?_
        have fin : ∀ {s' : Shared} {H' : Hp}, L2.Inv (Blk X s3 H3 scope ce fp (airOf X ce use Qf D)) ([] ++ pinsAt fp s7.heap) τ H' s' → Nx H' →
            ∃ m, m < n ∧ ∃ i H', L2.Inv (Blk X s3 H3 scope ce fp (airOf X ce use Qf D)) [] (wipe σ (own.map (·.2))) H' s' ∧ tn i s'.heap ∧ (∀ b ∈ fp, H' b = none) ∧ Wv i m H' := fun {s' H'} I' nx => by
          obtain ⟨m', hm, w'⟩ := hNx H' nx
          have pin : ∀ b ∈ fp, ∀ o, s7.heap.get? b = some o → s'.heap.get? b = some o ∧ H' b = none := fun b hb o e => by
            have z := I'.pin (b, o) (List.mem_append_right _ (List.mem_append_right _ (mem_pinsAt hb e)))
            exact ⟨z.1, z.2.1⟩
          refine ⟨m', hm, i + 1, H', (I'.unpinned (pins := [])).weak ?_ fun j v e => ?_, T.keep _ _ _ t7 fun b hb o e => (pin b hb o e).1, fun b hb => ?_, w'⟩
          · rw [← hw, wipe_length]
          · rw [← hw] at e
            exact (wipe_some e).1
          · obtain ⟨o, e, _⟩ := T.obj _ _ t7 b hb
            exact (pin b hb o e).2
        cases b with
        | false =>
          rw [if_neg Bool.false_ne_true] at q9 ⊢
          exact fin I9 q9
        | true =>
          rw [if_pos rfl] at q9 ⊢
          refine thn ((peT _ _ pass).run _ s9 τ H9 _ I9 q9) fun z s10 ⟨yv, H10, I10, r10, acc, hD10, hz10, nx⟩ => ?_
          exact app_ok (X := Blk X s3 H3 scope ce fp (airOf X ce use Qf D)) I10 hD10 hz10 r10 fun s11 I11 => fin I11 nx
    exact codeAny_compStart_list loop (T.self X.A 0 _ _ _ t4 loop)
  subst hs4 hcl hs3
  exact key
/-- the comprehension's reading where its element may raise -/
def tLcX (wi : TI) (g : TG) (tt : TT) (te : XK → TE) (vs : List Nat) (W : WX) : TE := fun σ H Q => tLc wi g tt (te fun cls d H' => W cls d σ H') vs σ H Q
/-- y = [..] -/
theorem ps_setLcX {i : Nat} {y : Str} {py pos spos : Pos} (hst : X.stack = X.env :: X.outer) (hfr : X.env.frame = some X.env.locals) (tk : Takes X W) (hy : X.N[i]? = some y) (hyl : X.env.scope.names.lookup y = some .local)
    (hsw : swapsWith (.ListComp elt [⟨tg, iter, ifs, 0⟩] scope pos) (some (.Name y py)) spos.line X.env = pure true) (P : Parts X elt tg iter ifs scope own wi g tt te) :
    PS X (.Assign [.Name y py] (.ListComp elt [⟨tg, iter, ifs, 0⟩] scope pos) spos) (tAsg (tLcX wi g tt te (own.map (·.2)) W) (gName i)) := by
  refine ⟨fun pins s σ H D I h => ?_⟩
  rw [exec_Assign_Name_used _ _ _ _ hsw]
  refine wpAny_bind (wpAny_standAt (wpAny_bind ?_))
  show wpAny _ X.A (do let _ ← comprehension (.ListComp elt [⟨tg, iter, ifs, 0⟩] scope pos) scope X.env (firstIterPos [⟨tg, iter, ifs, 0⟩] pos) (newList []) false (eval iter X.env) (some (assign (.Name y py) X.env))) _ _ s
  have h : tLc wi g tt (te fun cls d H' => W cls d σ H') (own.map (·.2)) σ H (fun x H1 => gName i x σ H1 D.nx) := h
  refine wpAny_bind (thn (core (Qf := fun _ s' => SP X pins D .next s') hst hfr tk P I h fun L ce s' m H' I' q hn f => ?_) fun _ s' hq => wpAny_pure (wpAny_pure hq))
  show wpAny _ _ (assign (.Name y py) X.env (.ref L)) _ _ _
  refine wpAny_assign_Name (store_ok2 (v := V.ref L) I' P.nd hy (.inl hyl) rfl (fun s2 I2 ⟨a, sb, ha⟩ => ?_) (.inr hyl))
  obtain ⟨f0, f1, f2, f3, f4, f5⟩ := f
  have hne : ce.locals ≠ a := ha.elim (fun z => by rw [z]; exact f1) fun z e => f4 y a z e.symm
  exact ⟨m, hn.sameBut sb hne, fun h3 sb3 => ⟨_, H', I2.turned (t' := s2.toks) (fun b o hb e => (sb3.2 b hb).trans e) f0 f1 f3 f4 f5, q⟩⟩
end
end CompX

namespace Law
open PySem PySem.Spec PyProof.Rows L2
def top (i : Nat) : Stmt := PySem.Challenge.pw_rungbounds_k06_join_of_named_ladders.main.body.getD i (.Pass ⟨0, 0, 0, 0⟩)
abbrev sBox : Stmt := top 20
abbrev sTake : Stmt := top 21
abbrev sNum : Stmt := top 22
/-- the box at b: the cells in the list at l, the place, what is left of a great cell, the seed -/
def Box (H : Hp) (b l : Addr) : Prop := ∃ (ns : List Int) (i : Nat) (q s : Int), H b = some (.lst [.ref l, .int i, .int q, .int s]) ∧ H l = some (.lst (ns.map V.int)) ∧ ns.length ≤ 63
theorem Box.ne {H : Hp} {b l : Addr} (B : Box H b l) : l ≠ b := fun z => by
  obtain ⟨ns, i, q, s, h1, h2, _⟩ := B
  rw [z, h1] at h2
  have e := HO.lst.inj (Option.some.inj h2)
  cases ns with
  | nil => cases e
  | cons n ns => cases e
theorem Box.keep {H H' : Hp} {b l : Addr} (B : Box H b l) (k : ∀ c, c = b ∨ c = l → H' c = H c) : Box H' b l := by
  obtain ⟨ns, i, q, s, h1, h2, h3⟩ := B
  exact ⟨ns, i, q, s, (k b (.inl rfl)).trans h1, (k l (.inr rfl)).trans h2, h3⟩
/-- a draw: 0 ≤ r < size; nothing but the box has changed -/
def spTake : Sp := fun vs H Q _ => ∃ (b l : Addr) (n : Int), vs = [.ref b, .int n] ∧ Box H b l ∧ 0 < n ∧ n.natAbs < 2 ^ 8000 ∧
  ∀ (r : Int) (H' : Hp), 0 ≤ r → r < n → Box H' b l → (∀ c, c ≠ b → H' c = H c) → Q (.int r) H'
def spBox (K : PySem.W.Frag) : Sp := fun vs H Q _ => ∃ (a : Addr) (ns : List Int), vs = [.ref a] ∧ SqL K H a (ns.map V.int) ∧ ns.length ≤ 63 ∧
  ∀ (b l : Addr) (H' : Hp), Box H' b l → H b = none → H l = none → Same H H' → Q (.ref b) H'
structure BoxTxt (K : PySem.W.Frag) (mg : Str → Option Value) : Prop where
  len : mg "len" = none
  int : mg "int" = none
section
variable {P : Program} {w : World} {K : PySem.W.Frag} {mg : Str → Option Value} {base : Heap}
theorem scTake : FnScope ["_law_box_here", "_law_size", "_law_cell", "_law_digit"] ["_law_box_here", "_law_size"] (defScope sTake) := ⟨rfl, rfl, rfl, by decide +kernel, rfl, by decide +kernel, by decide +kernel⟩
theorem if_t {c : Bool} {A B : Prop} (hc : c = true) (h : A) : if c = true then A else B := by
  rw [hc]
  exact h
theorem if_f {c : Bool} {A B : Prop} (hc : c = false) (h : B) : if c = true then A else B := by
  rw [hc]
  exact h
theorem pow18 : CPow 10 18 := ⟨by decide, by decide, by decide⟩
theorem at_box {l : Addr} {i q s : Int} : atI [V.ref l, .int i, .int q, .int s] 0 = some (.ref l) ∧ atI [V.ref l, .int i, .int q, .int s] 1 = some (.int i) ∧ atI [V.ref l, .int i, .int q, .int s] 2 = some (.int q) ∧ atI [V.ref l, .int i, .int q, .int s] 3 = some (.int s) := ⟨rfl, rfl, rfl, rfl⟩
theorem ok_take {f : Addr} {fd : FuncData} (F : Fun K "_law_take" "_law_take" sTake f fd) (T : BoxTxt K mg) : FnOk P w K mg base CX0 1 f fd ["_law_box_here", "_law_size"] spTake := by
  refine F.ok scTake (fun vs H Q E h => ?_) (fun cdv A outer s H vs Q E hr h => ?_)
  · obtain ⟨b, l, n, rfl, _⟩ := h
    rfl
  · obtain ⟨b, l, n, rfl, B, hn0, hn1, k⟩ := h
    refine ⟨_, C8.pss_cut (ps_if (PW.pt (pw_and (pt_cmpR op_lt (pe_ix ix_list (pv 0) pe_int (fun _ _ => rfl)) pe_int (nomark _))
          (pw_and1 (pt_cmpR op_lt (pe_ix ix_list (pv 0) pe_int (fun _ _ => rfl)) (pe_callB call_len_seq (by rfl) T.len PySem.boot_len (pa_cons (pe_ix ix_list (pv 0) pe_int (fun _ _ => rfl)) pa_nil)) (nomark _)))))
        (pss_cons (ps_set (i := 2) scTake.nd rfl (Or.inl rfl) (pe_ix ix_list (pe_ix ix_list (pv 0) pe_int (fun _ _ => rfl)) (pe_ix ix_list (pv 0) pe_int (fun _ _ => rfl)) (fun _ _ => rfl)))
        (pss_cons (ps_asg (pe_op op_add (pe_ix ix_list (pv 0) pe_int (fun _ _ => rfl)) pe_int) (pg_sub (pv 0) pe_int set_list))
        (pss_one (ps_if (pt_cmpR op_ge (pv 2) (pe_op op_pow pe_int pe_int) (nomark _))
          (pss_one (ps_asg (pe_op op_sub (pv 2) (pe_op op_pow pe_int pe_int)) (pg_sub (pv 0) pe_int set_list)))
          (pss_one (ps_asg (pe_op op_mod (pe_callTy call_int1 (by rfl) T.int (by decide +kernel) (pa_cons (pe_op op_add (pe_op op_add (pe_op op_mul (pe_ix ix_list (pv 0) pe_int (fun _ _ => rfl)) pe_int) (pe_op op_mul (pv 2) pe_int)) pe_int) pa_nil)) pe_int) (pg_sub (pv 0) pe_int set_list)))))))
        pss_nil)
      (pss_cons (ps_if (pt_cmpR op_gt (pe_ix ix_list (pv 0) pe_int (fun _ _ => rfl)) pe_int (nomark _))
        (pss_cons (ps_set (i := 3) scTake.nd rfl (Or.inl rfl) (pe_op op_mod (pe_callTy call_int1 (by rfl) T.int (by decide +kernel) (pa_cons (pe_ix ix_list (pv 0) pe_int (fun _ _ => rfl)) pa_nil)) (pv 1)))
        (pss_cons (ps_asg (pe_op op_fdivW (pe_ix ix_list (pv 0) pe_int (fun _ _ => rfl)) (pv 1)) (pg_sub (pv 0) pe_int set_list))
        (pss_one (ps_ret (pv 3))))) pss_nil)
      (pss_cons (ps_asg (pe_op op_mod (pe_callTy call_int1 (by rfl) T.int (by decide +kernel) (pa_cons (pe_op op_mul (pe_ix ix_list (pv 0) pe_int (fun _ _ => rfl)) pe_int) pa_nil)) pe_int) (pg_sub (pv 0) pe_int set_list))
      (pss_one (ps_ret (pe_op op_mod (pe_callTy call_int1 (by rfl) T.int (by decide +kernel) (pa_cons (pe_op op_fdiv (pe_ix ix_list (pv 0) pe_int (fun _ _ => rfl)) pe_int) pa_nil)) (pv 1)))))), ?_⟩
    obtain ⟨ns, i, q, sd, hb, hl, h63⟩ := id B
    have hne := B.ne
    have keepB : ∀ {H' : Hp} {i' : Nat} {q' s' : Int}, H' b = some (.lst [.ref l, .int i', .int q', .int s']) → (∀ c, c ≠ b → H' c = H c) → Box H' b l :=
      fun {H' i' q' s'} h1 h2 => ⟨ns, i', q', s', h1, (h2 l hne).trans hl, h63⟩
    refine ⟨fun σ' H' => ∃ (v : Option V) (i' : Nat) (q' s' : Int), σ' = [some (.ref b), some (.int n), v, none] ∧ H' b = some (.lst [.ref l, .int i', .int q', .int s']) ∧ ∀ c, c ≠ b → H' c = H c, ?_, ?_⟩
    · -- a new cell is read, or not
      refine ⟨_, rfl, b, _, _, _, rfl, rfl, SqL.of hb, at_box.2.2.1, _, _, rfl, rfl, _, rfl, ?_⟩
      by_cases c1 : q < 1
      · refine if_t (decide_eq_true c1) ?_
        refine ⟨_, rfl, b, _, _, _, rfl, rfl, SqL.of hb, at_box.2.1, _, rfl, b, _, _, _, rfl, rfl, SqL.of hb, at_box.1, l, _, rfl, .inl (SqL.of hl), _, _, rfl, rfl, _, rfl, ?_⟩
        by_cases c2 : (i : Int) < ((ns.map V.int).length : Int)
        · refine if_t (decide_eq_true c2) ?_
          rw [List.length_map] at c2
          obtain ⟨z, hz⟩ : ∃ z, ns[i]? = some z := ⟨_, List.getElem?_eq_getElem (by omega)⟩
          have hz' : atI (ns.map V.int) (i : Int) = some (V.int z) := atI_nat (by rw [List.getElem?_map, hz]; rfl)
          refine ⟨_, rfl, b, _, _, _, rfl, rfl, SqL.of hb, at_box.1, _, rfl, b, _, _, _, rfl, rfl, SqL.of hb, at_box.2.1, l, _, _, _, rfl, rfl, SqL.of hl, hz', ?_⟩
          refine ⟨_, rfl, b, _, _, _, rfl, rfl, SqL.of hb, at_box.2.1, _, _, rfl, rfl, _, rfl, b, _, _, 1, rfl, rfl, hb, rfl, ?_⟩
          have h1 : ∀ (o : HO), upd H b o b = some o := fun o => upd_same
          have hc : ∀ (o : HO) c, c ≠ b → upd H b o c = H c := fun o c hc => upd_ne hc
          refine ⟨_, rfl, _, _, rfl, rfl, pow18, _, _, rfl, rfl, _, rfl, ?_⟩
          refine ite2 (fun _ => ?_) fun _ => ?_
          · refine ⟨_, rfl, _, _, rfl, rfl, pow18, _, _, rfl, rfl, _, rfl, b, _, _, 2, rfl, rfl, h1 _, rfl, ?_⟩
            exact ⟨some (.int z), i + 1, _, sd, rfl, upd_same, fun c hc' => by rw [upd_ne hc', upd_ne hc']⟩
          · refine ⟨_, rfl, b, _, _, _, rfl, rfl, SqL.of (h1 _), at_box.2.2.2, _, _, rfl, rfl, .inr ⟨by decide, by decide⟩, _, rfl, _, _, rfl, rfl, .inr ⟨by decide, by decide⟩, _, _, rfl, rfl, _, _, rfl, rfl, .inl ⟨_, rfl, _, _, rfl, rfl, (by show (0 : Int) < 2147483647; decide), _, rfl, b, _, _, 3, rfl, rfl, h1 _, rfl, ?_⟩⟩
            exact ⟨some (.int z), i + 1, q, _, rfl, upd_same, fun c hc' => by rw [upd_ne hc', upd_ne hc']⟩
        · refine if_f (decide_eq_false c2) ?_
          exact ⟨none, i, q, sd, rfl, hb, fun _ _ => rfl⟩
      · refine if_f (decide_eq_false c1) ?_
        exact ⟨none, i, q, sd, rfl, hb, fun _ _ => rfl⟩
    · rintro σ' H' ⟨v, i', q', s', rfl, hb', ho⟩
      refine ⟨_, rfl, b, _, _, _, rfl, rfl, SqL.of hb', at_box.2.2.1, _, _, rfl, rfl, _, rfl, ?_⟩
      refine ite2 (fun _ => ?_) fun _ => ?_
      · refine ⟨_, rfl, b, _, _, _, rfl, rfl, SqL.of hb', at_box.2.2.1, .inl ⟨_, rfl, _, rfl, _, _, rfl, rfl, hn0, ?_⟩⟩
        refine ⟨_, rfl, b, _, _, _, rfl, rfl, SqL.of hb', at_box.2.2.1, _, rfl, _, _, rfl, rfl, wide_div hn0 hn1 (by decide) (by decide), _, rfl, b, _, _, 2, rfl, rfl, hb', rfl, _, rfl, ?_⟩
        exact k _ _ (Int.emod_nonneg _ (by omega)) (Int.emod_lt_of_pos _ hn0) (keepB (q' := q' / n) upd_same fun c hc => (upd_ne hc).trans (ho c hc)) fun c hc => (upd_ne hc).trans (ho c hc)
      · refine ⟨_, rfl, b, _, _, _, rfl, rfl, SqL.of hb', at_box.2.2.2, _, _, rfl, rfl, .inr ⟨by decide, by decide⟩, .inl ⟨_, rfl, _, _, rfl, rfl, (by show (0 : Int) < 2147483647; decide), _, rfl, b, _, _, 3, rfl, rfl, hb', rfl, ?_⟩⟩
        refine ⟨_, rfl, b, _, _, _, rfl, rfl, SqL.of upd_same, at_box.2.2.2, _, _, rfl, rfl, ⟨by decide, by decide⟩, .inl ⟨_, rfl, _, rfl, _, _, rfl, rfl, hn0, ?_⟩⟩
        exact k _ _ (Int.emod_nonneg _ (by omega)) (Int.emod_lt_of_pos _ hn0) (keepB upd_same fun c hc => (upd_ne hc).trans (ho c hc)) fun c hc => (upd_ne hc).trans (ho c hc)

theorem cut63 {xs : List V} (h : xs.length ≤ 63) : cutV xs none (some 63) = xs := by
  unfold cutV
  have e0 : HT.sIx xs.length 0 none = 0 := rfl
  have e1 : HT.sIx xs.length xs.length (some 63) = xs.length := by
    unfold HT.sIx
    simp
    omega
  rw [e0, e1, List.drop_zero, Nat.sub_zero, List.take_length]
theorem scBox : FnScope ["_law_script", "_law_cell"] ["_law_script"] (defScope sBox) := ⟨rfl, rfl, rfl, by decide +kernel, rfl, by decide +kernel, by decide +kernel⟩
theorem ok_box {f : Addr} {fd : FuncData} (F : Fun K "_law_box" "_law_box" sBox f fd) (T : BoxTxt K mg) : FnOk P w K mg base CX0 1 f fd ["_law_script"] (spBox K) := by
  refine F.ok scBox (fun vs H Q E h => ?_) (fun cdv A outer s H vs Q E hr h => ?_)
  · obtain ⟨a, ns, rfl, _⟩ := h
    rfl
  · obtain ⟨a, ns, rfl, hS, h63, k⟩ := h
    refine ⟨_, pss_one (ps_ret (pe_lst (pa_cons (pe_lc (own := [("_law_cell", 1)]) (g := gName 1) (tt := tYes) (by rfl) scBox.nd (pi_list (pe_slice sl_list (pv 0) po_none (po_some pe_int)))
        (blkOk_by (own := [("_law_cell", 1)]) (N := ["_law_script", "_law_cell"]) (sc := defScope sBox) (by decide +kernel)) (fun _ _ _ _ _ => pg_name (i := 1) scBox.nd rfl (Or.inl rfl)) (fun _ _ _ _ _ => pts_nil)
        (fun _ _ _ _ _ => pe_callTy call_int1 (by rfl) T.int (by decide +kernel) (pa_cons (pv 1) pa_nil))) (pa_cons pe_int (pa_cons pe_int (pa_cons pe_int pa_nil)))))), ?_⟩
    have e63 : cutV (ns.map V.int) none (some 63) = ns.map V.int := cut63 (by rw [List.length_map]; exact h63)
    refine ⟨_, rfl, 63, rfl, a, _, rfl, hS, fun p hp => ?_⟩
    rw [e63]
    refine ⟨p, rfl, ⟨_, SqL.of upd_same⟩, fun D hD => ?_⟩
    have hpD : p ≠ D := fun z => by
      rw [z, upd_same] at hD
      cases hD
    have hD0 : H D = none := by rw [upd_ne (Ne.symm hpD)] at hD; exact hD
    refine lc_list (K := K) (a := p) (xs := ns.map V.int) (fun i H' => H' D = some (.lst ((ns.take i).map V.int)) ∧ H' p = some (.lst (ns.map V.int)) ∧ ∀ c, c ≠ D → c ≠ p → H' c = H c)
      ⟨upd_same, by rw [upd_ne hpD, upd_same], fun c h1 h2 => by rw [upd_ne h1, upd_ne h2]⟩ (fun i H' _ h => SqL.of h.2.1) ?_ ?_
    · rintro i y H' hi ⟨g1, g2, g3⟩
      obtain ⟨z, hz, rfl⟩ : ∃ z, ns[i]? = some z ∧ y = V.int z := by
        rw [List.getElem?_map] at hi
        cases e : ns[i]? with
        | none =>
          rw [e] at hi
          cases hi
        | some z =>
          rw [e] at hi
          exact ⟨z, rfl, (Option.some.inj hi).symm⟩
      refine ⟨rfl, ?_⟩
      have step : ∃ acc, H' D = some (.lst acc) ∧ acc.length < sizeLine ∧ (upd H' D (.lst (acc ++ [V.int z]))) D = some (.lst ((ns.take (i + 1)).map V.int)) ∧ (upd H' D (.lst (acc ++ [V.int z]))) p = some (.lst (ns.map V.int)) ∧
          ∀ c, c ≠ D → c ≠ p → (upd H' D (.lst (acc ++ [V.int z]))) c = H c := by
        refine ⟨_, g1, ?_, ?_⟩
        · rw [List.length_map, List.length_take]
          exact small1000 (by omega)
        · refine ⟨?_, by rw [upd_ne hpD]; exact g2, fun c h1 h2 => by rw [upd_ne h1]; exact g3 c h1 h2⟩
          rw [upd_same, List.take_succ, hz, Option.toList_some, List.map_append]
          rfl
      exact ⟨V.int z, rfl, .inl ⟨z, rfl, step⟩⟩
    · rintro H' ⟨g1, g2, g3⟩
      rw [List.length_map, List.take_length] at g1
      refine ⟨(by show 4 ≤ sizeLine; decide), fun b hb => ?_⟩
      have hDb : D ≠ b := ne_of_none g1 hb
      have hpb : p ≠ b := ne_of_none g2 hb
      refine k b D _ ⟨ns, 0, 0, 0, upd_same, by rw [upd_ne hDb]; exact g1, h63⟩ (by rw [← g3 b (Ne.symm hDb) (Ne.symm hpb)]; exact hb) hD0 fun c o hc => ?_
      have n1 : c ≠ D := ne_of_none hc hD0
      have n2 : c ≠ p := ne_of_none hc hp
      have n3 : c ≠ b := fun z => by
        rw [z, ← g3 b (Ne.symm hDb) (Ne.symm hpb), hb] at hc
        cases hc
      rw [upd_ne n3, g3 c n1 n2]
      exact hc
theorem scNum : FnScope ["_law_x"] ["_law_x"] (defScope sNum) := ⟨rfl, rfl, rfl, by decide +kernel, rfl, by decide +kernel, by decide +kernel⟩
def spNum : Sp := fun vs H Q _ => ∃ i : Int, vs = [.int i] ∧ Q (.bl true) H
structure NumTxt (mg : Str → Option Value) : Prop where
  isi : mg "isinstance" = none
  int : mg "int" = none
  bool : mg "bool" = none
theorem ok_num {f : Addr} {fd : FuncData} (F : Fun K "_law_number" "_law_number" sNum f fd) (T : NumTxt mg) : FnOk P w K mg base CX0 1 f fd ["_law_x"] spNum := by
  refine F.ok scNum (fun vs H Q E h => ?_) (fun cdv A outer s H vs Q E hr h => ?_)
  · obtain ⟨i, rfl, _⟩ := h
    rfl
  · obtain ⟨i, rfl, k⟩ := h
    refine ⟨_, pss_one (ps_ret (pe_and (pe_callB call_isi (by rfl) T.isi (by decide +kernel) (pa_cons (pv 0) (pa_cons (pe_bltn (v := .ty "int") (by rfl) T.int (by decide +kernel) rfl) pa_nil)))
      (pe_one (pe_not (pe_callB call_isi (by rfl) T.isi (by decide +kernel) (pa_cons (pv 0) (pa_cons (pe_bltn (v := .ty "bool") (by rfl) T.bool (by decide +kernel) rfl) pa_nil))))))), ?_⟩
    refine ⟨_, rfl, V.int i, .ty "int", .type "int", .type "int", true, rfl, .ty _, .base (.int i), by rfl, true, rfl, ?_⟩
    refine if_t rfl ⟨_, rfl, V.int i, .ty "bool", .type "int", .type "bool", false, rfl, .ty _, .base (.int i), by rfl, false, rfl, k⟩
end
end Law
namespace Law
open PySem PySem.Spec PyProof.Rows L2 Sup
abbrev sErr : Stmt := inClass (top 4) 0
abbrev sChk : Stmt := top 14
/-- the way out by BadNumber -/
def Bad (C : Addr) (E : XK) (H : Hp) (v : Int) : Prop := ∀ d, H d = none → E (.ref C) (some d) (upd H d (.xd [("value", .int v)]))
def spChk (C : Addr) : Sp := fun vs H Q E => ∃ i : Int, vs = [.int i] ∧ i.natAbs < 2 ^ 1000 ∧ (i < 0 → Bad C E H i) ∧ (0 ≤ i → Q .non H)
theorem log_of {i : Int} {k : Nat} (hk : 0 < k) (h : i.natAbs < 2 ^ k) : i.natAbs.log2 < k := by
  by_cases hz : i.natAbs = 0
  · rw [hz, Nat.log2_zero]
    exact hk
  · exact (Nat.log2_lt hz).mpr h
section
variable {P : Program} {w : World} {K : PySem.W.Frag} {mg : Str → Option Value} {base : Heap} {C : Addr}
theorem scChk : FnScope ["number"] ["number"] (defScope sChk) := ⟨rfl, rfl, rfl, by decide +kernel, rfl, by decide +kernel, by decide +kernel⟩
theorem ok_chk {f : Addr} {fd : FuncData} (F : Fun K "check_not_negative" "check_not_negative" sChk f fd) (R : ErrOk P w K mg base "BadNumber" C "value" okInt) : FnOk P w K mg base (L2.CX P w) 4 f fd ["number"] (spChk C) := by
  refine F.okX scChk (fun vs H Q E h => ?_) (fun cdv A outer s H vs Q E hr h => ?_)
  · obtain ⟨i, rfl, _⟩ := h
    rfl
  · obtain ⟨i, rfl, hi, h1, h2⟩ := h
    refine ⟨_, pss_one (ps_if (pt_cmpR op_lt (pv 0) pe_int (nomark _)) (pss_one (ps_err R rfl (takes_of rfl rfl rfl rfl) hr (pa_cons (pv 0) pa_nil) rfl)) pss_nil), ?_⟩
    refine ⟨_, rfl, _, _, rfl, rfl, _, rfl, ?_⟩
    by_cases c : i < 0
    · refine if_t (decide_eq_true c) ⟨_, rfl, err_way ⟨i, rfl, log_of (by decide) (Nat.lt_of_lt_of_le hi (Nat.pow_le_pow_right (by decide) (by decide)))⟩ (h1 c)⟩
    · exact if_f (decide_eq_false c) (h2 (by omega))
end
def Sz (i : Int) : Prop := i.natAbs < 2 ^ 200
theorem Sz.mul {a b : Int} (ha : a.natAbs < 2 ^ 300) (hb : b.natAbs < 2 ^ 300) : CMulW a b := wide_mul ha hb (by decide) (by decide) (by decide)
theorem Sz.w {a : Int} (ha : Sz a) : a.natAbs < 2 ^ 300 := Nat.lt_of_lt_of_le ha (Nat.pow_le_pow_right (by decide) (by decide))
theorem Sz.t {a : Int} (ha : Sz a) : a.natAbs < 2 ^ 1000 := Nat.lt_of_lt_of_le ha (Nat.pow_le_pow_right (by decide) (by decide))
theorem Sz.of {i : Int} (h : i.natAbs ≤ 10 ^ 42) : Sz i := Nat.lt_of_le_of_lt h (by decide +kernel)
theorem pow_ok {j : Int} (h : 0 ≤ j ∧ j ≤ 1000000) : CPow 10 j := ⟨h.1, h.2, by decide⟩
theorem size_fit {n : Int} (h0 : 0 < n) (h : n ≤ 10 ^ 40) : n.natAbs < 2 ^ 8000 := by
  have h1 : n.natAbs ≤ 10 ^ 40 := by omega
  exact Nat.lt_of_le_of_lt h1 (by decide +kernel)
end Law

namespace Law
open PySem PySem.Spec PyProof.Rows L2 Sup
abbrev sCkn : Stmt := top 13
abbrev sRini : Stmt := inClass (top 18) 0
abbrev sPut : Stmt := inClass (top 18) 1
abbrev sNms : Stmt := inClass (top 18) 2
abbrev sLof : Stmt := inClass (top 18) 3
abbrev sLen : Stmt := inClass (top 18) 7
abbrev sCon : Stmt := inClass (top 18) 8
def letters : Str := "abcdefghijklmnopqrstuvwxyz"
/-- a name that breaks the rule for names -/
def badN (y : Str) : Bool := decide (y.length < 1) || decide (12 < y.length) || y.cps.toList.any fun c => !decide (c ∈ letters.cps.toList)
/-- a text that errors may tell -/
def Fit (y : Str) : Prop := y.length ≤ 60 ∧ ∀ c ∈ y.cps.toList, c < 1114112
theorem Fit.ok {y : Str} (h : Fit y) : okTxt (.str y) := ⟨y, rfl, by
  have := StrLaws.reprText_len y fun c hc => Nat.lt_of_lt_of_le (h.2 c hc) (by decide)
  have := h.1
  omega⟩
/-- the way out by an own error with one field, from a heap in which all stands as it stood -/
def BadX (C : Addr) (fl : Str) (E : XK) (H : Hp) (v : V) : Prop := ∀ (H' : Hp) (d : Addr), Same H H' → H' d = none → E (.ref C) (some d) (upd H' d (.xd [(fl, v)]))
abbrev Row := Str × Int
def kvs (rows : List Row) : List (Key × V) := rows.map fun p => (.inr p.1, .int p.2)
def known (rows : List Row) (y : Str) : Bool := (rows.map (·.1)).contains y
/-- a rack of the class at CR, its dict at d, with these ladders -/
def Rck (CR : Addr) (H : Hp) (r d : Addr) (rows : List Row) : Prop := (∃ dx fs, H r = some (.ins CR dx fs) ∧ fs.lookup ("_lengths" : Str) = some (V.ref d) ∧ ∀ m : Str, m ≠ "_lengths" → fs.lookup m = none) ∧ H d = some (.dK (kvs rows))
theorem Rck.ne {CR : Addr} {H : Hp} {r d : Addr} {rows : List Row} (h : Rck CR H r d rows) : r ≠ d := fun z => by
  obtain ⟨⟨dx, fs, h1, _⟩, h2⟩ := h
  rw [z, h2] at h1
  cases h1
theorem Rck.same {CR : Addr} {H H' : Hp} {r d : Addr} {rows : List Row} (h : Rck CR H r d rows) (s : Same H H') : Rck CR H' r d rows := by
  obtain ⟨⟨dx, fs, h1, h2⟩, h3⟩ := h
  exact ⟨⟨dx, fs, s _ _ h1, h2⟩, s _ _ h3⟩
theorem Rck.put {CR : Addr} {H : Hp} {r d : Addr} {rows rows' : List Row} (h : Rck CR H r d rows) : Rck CR (upd H d (.dK (kvs rows'))) r d rows' := by
  have n := h.ne
  obtain ⟨⟨dx, fs, h1, h2⟩, h3⟩ := h
  exact ⟨⟨dx, fs, by rw [upd_ne n]; exact h1, h2⟩, upd_same⟩
theorem val_kvs (y : Str) : ∀ rows : List Row, valV (kvs rows) (.inr y) = (rows.lookup y).map V.int
  | [] => rfl
  | (x, L) :: r => by
    have ih := val_kvs y r
    show valV ((.inr x, V.int L) :: kvs r) (.inr y) = _
    by_cases e : x = y
    · subst e
      rw [valV_pos rfl]
      simp [List.lookup]
    · rw [valV_neg (fun z => e (Sum.inr.inj z)), ih]
      have q : (y == x) = false := by simpa using fun z => e z.symm
      simp [List.lookup, q]
theorem known_iff (y : Str) : ∀ rows : List Row, known rows y = (rows.lookup y).isSome
  | [] => rfl
  | (x, L) :: r => by
    have ih := known_iff y r
    unfold known at ih ⊢
    rw [List.map_cons, List.contains_cons]
    by_cases e : y = x
    · subst e
      simp [List.lookup]
    · have q : (y == x) = false := by simpa using e
      rw [q, Bool.false_or, ih]
      simp [List.lookup, q]
theorem put_kvs {rows : List Row} {y : Str} (L : Int) (h : known rows y = false) : putK (kvs rows) (.inr y) (.int L) = kvs (rows ++ [(y, L)]) := by
  rw [known_iff] at h
  rw [putK_new _ (by rw [val_kvs]; cases e : rows.lookup y with | none => rfl | some v => rw [e] at h; cases h)]
  unfold kvs
  rw [List.map_append]
  rfl
/-- the first error that is due where a ladder is put -/
inductive Due where
  | name | taken | number | many | put
  deriving DecidableEq
def due (rows : List Row) (y : Str) (L : Int) : Due := if badN y = true then .name else if known rows y = true then .taken else if L < 0 then .number else if 8 ≤ rows.length then .many else .put
structure Errs where
  N : Addr
  T : Addr
  B : Addr
  M : Addr
  U : Addr
/-- the same, from any heap of which S is true -/
def BadW (S : Hp → Prop) (C : Addr) (fl : Str) (E : XK) (v : V) : Prop := ∀ (H' : Hp) (d : Addr), S H' → H' d = none → E (.ref C) (some d) (upd H' d (.xd [(fl, v)]))
def RefusedW (S : Hp → Prop) (C : Errs) (E : XK) (rows : List Row) (y : Str) (L : Int) : Prop := (due rows y L = .name → BadW S C.N "name" E (.str y)) ∧ (due rows y L = .taken → BadW S C.T "name" E (.str y)) ∧
  (due rows y L = .number → BadW S C.B "value" E (.int L)) ∧ (due rows y L = .many → BadW S C.M "count" E (.int ((rows.length : Int) + 1)))
def Refused (C : Errs) (E : XK) (H : Hp) (rows : List Row) (y : Str) (L : Int) : Prop := (due rows y L = .name → BadX C.N "name" E H (.str y)) ∧ (due rows y L = .taken → BadX C.T "name" E H (.str y)) ∧
  (due rows y L = .number → BadX C.B "value" E H (.int L)) ∧ (due rows y L = .many → BadX C.M "count" E H (.int ((rows.length : Int) + 1)))
theorem RefusedW.at {S : Hp → Prop} {C : Errs} {E : XK} {H : Hp} {rows : List Row} {y : Str} {L : Int} (h : RefusedW S C E rows y L) (k : ∀ H', Same H H' → S H') : Refused C E H rows y L :=
  ⟨fun c H' d s hd => h.1 c H' d (k H' s) hd, fun c H' d s hd => h.2.1 c H' d (k H' s) hd, fun c H' d s hd => h.2.2.1 c H' d (k H' s) hd, fun c H' d s hd => h.2.2.2 c H' d (k H' s) hd⟩
/-- the first ladder that is refused where they are put one by one, with those put ahead of it -/
def firstBad : List Row → List Row → Option (List Row × Str × Int)
  | _, [] => none
  | acc, (y, L) :: r => if due acc y L = .put then firstBad (acc ++ [(y, L)]) r else some (acc, y, L)
/-- all but x and d stands as it stood -/
def But (x d : Addr) (H : Hp) : Hp → Prop := fun H' => ∀ b o, b ≠ x → b ≠ d → H b = some o → H' b = some o
def spRini (C : Errs) (CR : Addr) : Sp := fun vs H Q E => ∃ (x dx d0 : Addr) (rows : List Row), vs = [.ref x, .ref d0] ∧ H x = some (.ins CR dx []) ∧ H d0 = some (.dK (kvs rows)) ∧ rows.length ≤ 60 ∧ (∀ p ∈ rows, Fit p.1 ∧ p.2.natAbs < 2 ^ 1000) ∧
  (8 < rows.length → BadW (But x d0 H) C.M "count" E (.int rows.length)) ∧ (rows.length ≤ 8 → (∀ acc y L, firstBad [] rows = some (acc, y, L) → RefusedW (But x d0 H) C E acc y L) ∧
    (firstBad [] rows = none → ∀ d H', H d = none → Rck CR H' x d rows → But x d0 H H' → Q .non H'))
def spCkn (C : Errs) : Sp := fun vs H Q E => ∃ y : Str, vs = [.str y] ∧ Fit y ∧ (badN y = true → BadX C.N "name" E H (.str y)) ∧ (badN y = false → Q .non H)
def spPut (C : Errs) (CR : Addr) : Sp := fun vs H Q E => ∃ (r d : Addr) (rows : List Row) (y : Str) (L : Int), vs = [.ref r, .str y, .int L] ∧ Rck CR H r d rows ∧ rows.length ≤ 60 ∧ Fit y ∧ L.natAbs < 2 ^ 1000 ∧ Refused C E H rows y L ∧
  (due rows y L = .put → Q .non (upd H d (.dK (kvs (rows ++ [(y, L)])))))
def spNms (CR : Addr) : Sp := fun vs H Q _ => ∃ (r d : Addr) (rows : List Row), vs = [.ref r] ∧ Rck CR H r d rows ∧ ∀ p, H p = none → Q (.ref p) (upd H p (.lst (rows.map fun x => V.str x.1)))
def spLof (C : Errs) (CR : Addr) : Sp := fun vs H Q E => ∃ (r d : Addr) (rows : List Row) (y : Str), vs = [.ref r, .str y] ∧ Rck CR H r d rows ∧ Fit y ∧ (rows.lookup y = none → BadX C.U "name" E H (.str y)) ∧ (∀ L, rows.lookup y = some L → Q (.int L) H)
def spLen (CR : Addr) : Sp := fun vs H Q _ => ∃ (r d : Addr) (rows : List Row), vs = [.ref r] ∧ Rck CR H r d rows ∧ Q (.int rows.length) H
def spCon (CR : Addr) : Sp := fun vs H Q _ => ∃ (r d : Addr) (rows : List Row) (y : Str), vs = [.ref r, .str y] ∧ Rck CR H r d rows ∧ Q (.bl (known rows y)) H
structure RackTxt (K : PySem.W.Frag) (mg : Str → Option Value) (CR fN fK : Addr) : Prop where
  letters : ∃ t, mg "LETTERS" = some (.str letters t)
  longest : ∃ t, mg "LONGEST_NAME" = some (.int 12 t)
  most : ∃ t, mg "MOST_LADDERS" = some (.int 8 t)
  ckn : mg "check_name" = some (.ref fN)
  chk : mg "check_not_negative" = some (.ref fK)
  len : mg "len" = none
  list : mg "list" = none
  cl : Cls K CR
  nD : NoAttr K CR "_lengths"
section
variable {P : Program} {w : World} {K : PySem.W.Frag} {mg : Str → Option Value} {base : Heap} {C : Errs} {CR fN fK : Addr}
theorem scCkn : FnScope ["name", "letter"] ["name"] (defScope sCkn) := ⟨rfl, rfl, rfl, by decide +kernel, rfl, by decide +kernel, by decide +kernel⟩
theorem ok_ckn {f : Addr} {fd : FuncData} (F : Fun K "check_name" "check_name" sCkn f fd) (RN : ErrOk P w K mg base "BadName" C.N "name" okTxt) (T : RackTxt K mg CR fN fK) : FnOk P w K mg base (L2.CX P w) 4 f fd ["name"] (spCkn C) := by
  obtain ⟨t1, T1⟩ := T.letters
  obtain ⟨t2, T2⟩ := T.longest
  refine F.okX scCkn (fun vs H Q E h => ?_) (fun cdv A outer s H vs Q E hr h => ?_)
  · obtain ⟨y, rfl, _⟩ := h
    rfl
  · obtain ⟨y, rfl, fy, h1, h2⟩ := h
    have hr3 : Room 3 _ := hr
    refine ⟨_, (pss_cons (ps_if (pt_not (pt_chain op_le op_le pe_int (pe_callB call_len_str (by rfl) T.len PySem.boot_len (pa_cons (pv 0) pa_nil)) (pe_glob (v := .int 12) rfl T2 ⟨_, rfl⟩))) (pss_one (ps_err RN rfl (takes_of rfl rfl rfl rfl) hr3 (pa_cons (pv 0) pa_nil) rfl)) pss_nil)
      (pss_one (ps_for (passes_of rfl) rfl (pi_str (pv 0)) (pg_name (i := 1) scCkn.nd rfl (Or.inl rfl)) (pss_one (ps_if (pt_cmpR op_notIn_sign (pv 1) (pe_glob (v := .str letters) rfl T1 ⟨_, rfl⟩) rfl) (pss_one (ps_err RN rfl (takes_of rfl rfl rfl rfl) hr3 (pa_cons (pv 0) pa_nil) rfl)) pss_nil))))), ?_⟩
    have way : badN y = true → okTxt (.str y) ∧ ∀ d, H d = none → E (.ref C.N) (some d) (upd H d (.xd [("name", .str y)])) := fun hb => ⟨fy.ok, fun d hd => h1 hb H d (fun _ _ e => e) hd⟩
    refine ⟨_, rfl, y, rfl, by have := fy.1; rw [sizeLine_eq]; omega, _, _, rfl, rfl, _, rfl, ?_⟩
    by_cases c0 : (1 : Int) ≤ (y.length : Int)
    · refine if_t (decide_eq_true c0) ⟨_, _, rfl, rfl, _, rfl, ?_⟩
      by_cases c1 : (y.length : Int) ≤ 12
      · refine if_f (by rw [decide_eq_true c1]; rfl) ?_
        have e0 : decide (y.length < 1) = false := decide_eq_false (by omega)
        have e1 : decide (12 < y.length) = false := decide_eq_false (by omega)
        refine ⟨_, rfl, y, rfl, for_it walk_str (fun i σ' H' => ∃ v : Option V, σ' = [some (.str y), v] ∧ H' = H ∧ (y.cps.toList.take i).any (fun c => !decide (c ∈ letters.cps.toList)) = false) ⟨_, rfl, rfl, by simp⟩ (fun _ _ _ _ _ => True.intro) ?_ ?_⟩
        · rintro i x σ' H' H'' hi ⟨v, rfl, rfl, ha⟩ ⟨rfl, c, hc, rfl⟩
          have hc' : y.cps.toList[i]? = some c := by rw [← hc]; simp
          refine ⟨_, rfl, c, letters, rfl, rfl, _, rfl, ?_⟩
          by_cases cl : c ∈ letters.cps.toList
          · refine if_f (by rw [decide_eq_true cl]; rfl) ⟨_, rfl, rfl, ?_⟩
            rw [List.take_succ, hc', Option.toList_some, List.any_append, ha, List.any_cons, decide_eq_true cl]
            rfl
          · refine if_t (by rw [decide_eq_false cl]; rfl) ⟨_, rfl, ?_⟩
            obtain ⟨z1, z2⟩ := way (by
              unfold badN
              have : y.cps.toList.any (fun c => !decide (c ∈ letters.cps.toList)) = true := List.any_eq_true.mpr ⟨c, List.mem_of_getElem? hc', by simp [cl]⟩
              rw [this, Bool.or_true])
            exact err_way z1 z2
        · rintro σ' H' ⟨v, rfl, rfl, ha⟩
          refine h2 ?_
          unfold badN
          rw [e0, e1]
          rw [List.take_of_length_le (by simp)] at ha
          rw [ha]
          rfl
      · refine if_t (by rw [decide_eq_false c1]; rfl) ⟨_, rfl, ?_⟩
        obtain ⟨z1, z2⟩ := way (by
          unfold badN
          rw [decide_eq_true (show 12 < y.length by omega), Bool.or_true, Bool.true_or])
        exact err_way z1 z2
    · refine if_f (decide_eq_false c0) ⟨_, rfl, ?_⟩
      refine if_t rfl ⟨_, rfl, ?_⟩
      obtain ⟨z1, z2⟩ := way (by
        unfold badN
        rw [decide_eq_true (show y.length < 1 by omega), Bool.true_or, Bool.true_or])
      exact err_way z1 z2
theorem scPut : FnScope ["self", "name", "length"] ["self", "name", "length"] (defScope sPut) := ⟨rfl, rfl, rfl, by decide +kernel, rfl, by decide +kernel, by decide +kernel⟩
theorem ok_put {f : Addr} {fd fdN fdK : FuncData} (F : Fun K "put" "Rack.put" sPut f fd) (RN : ErrOk P w K mg base "BadName" C.N "name" okTxt) (RT : ErrOk P w K mg base "TakenName" C.T "name" okTxt) (RB : ErrOk P w K mg base "BadNumber" C.B "value" okInt) (RM : ErrOk P w K mg base "TooMany" C.M "count" okInt)
    (FN : Fun K "check_name" "check_name" sCkn fN fdN) (bN : Binds K fdN ["name"] []) (FK : Fun K "check_not_negative" "check_not_negative" sChk fK fdK) (bK : Binds K fdK ["number"] []) (T : RackTxt K mg CR fN fK) : FnOk P w K mg base (L2.CX P w) 5 f fd ["self", "name", "length"] (spPut C CR) := by
  have GN : FnOk P w K mg base (L2.CX P w) 4 fN fdN ["name"] (spCkn C) := ok_ckn FN RN T
  have GK : FnOk P w K mg base (L2.CX P w) 4 fK fdK ["number"] (spChk C.B) := ok_chk FK RB
  obtain ⟨t3, T3⟩ := T.most
  refine F.okX scPut (fun vs H Q E h => ?_) (fun cdv A outer s H vs Q E hr h => ?_)
  · obtain ⟨r, d, rows, y, L, rfl, _⟩ := h
    rfl
  · obtain ⟨r, d, rows, y, L, rfl, hR, h60, fy, sL, ⟨r1, r2, r3, r4⟩, k⟩ := h
    have hr3 : Room 3 _ := hr.mono (by decide)
    refine ⟨_, (pss_cons (ps_expr (pe_call (E := E) GN hr rfl T.ckn FN.kp bN .nil (passes_call (takes_of rfl rfl rfl rfl) fun _ _ _ _ z => z) (pa_cons (pv 1) pa_nil)))
      (pss_cons (ps_if (pt_cmp (pc_din (hu_of hr) (pv 1) (pe_fld (pv 0) rfl))) (pss_one (ps_err RT rfl (takes_of rfl rfl rfl rfl) hr3 (pa_cons (pv 1) pa_nil) rfl)) pss_nil)
      (pss_cons (ps_expr (pe_call (E := E) GK hr rfl T.chk FK.kp bK .nil (passes_call (takes_of rfl rfl rfl rfl) fun _ _ _ _ z => z) (pa_cons (pv 2) pa_nil)))
      (pss_cons (ps_if (pt_cmpR op_ge (pe_callB call_lenD (by rfl) T.len PySem.boot_len (pa_cons (pe_fld (pv 0) rfl) pa_nil)) (pe_glob (v := .int 8) rfl T3 ⟨_, rfl⟩) (nomark _)) (pss_one (ps_err RM rfl (takes_of rfl rfl rfl rfl) hr3 (pa_cons (pe_op op_add (pe_callB call_lenD (by rfl) T.len PySem.boot_len (pa_cons (pe_fld (pv 0) rfl) pa_nil)) pe_int) pa_nil) rfl)) pss_nil)
      (pss_one (ps_dput (hu_of hr) (pe_fld (pv 0) rfl) (pv 1) (pv 2) rfl)))))), ?_⟩
    obtain ⟨⟨dx, fs, h1, h2, _⟩, h3⟩ := id hR
    refine ⟨_, rfl, y, rfl, fy, fun hb => r1 (by unfold due; rw [if_pos hb]), fun hb => ?_⟩
    have hb' : ¬ (badN y = true) := by rw [hb]; decide
    refine ⟨_, rfl, _, rfl, r, CR, dx, fs, _, rfl, h1, T.cl, T.nD, h2, d, _, rfl, DGet.k (k := .inr y) h3, _, rfl, ?_⟩
    rw [val_kvs, Option.isSome_map, ← known_iff]
    by_cases hk : known rows y = true
    · refine if_t hk ⟨_, rfl, ?_⟩
      exact err_way fy.ok fun d' hd' => r2 (by unfold due; rw [if_neg hb', if_pos hk]) H d' (fun _ _ e => e) hd'
    · have hk' : known rows y = false := by simpa using hk
      refine if_f hk' ?_
      refine ⟨_, rfl, L, rfl, sL, fun c d' hd' => r3 (by unfold due; rw [if_neg hb', if_neg hk, if_pos c]) H d' (fun _ _ e => e) hd', fun c => ?_⟩
      have c' : ¬ L < 0 := by omega
      refine ⟨_, rfl, r, CR, dx, fs, _, rfl, h1, T.cl, T.nD, h2, d, _, rfl, h3, _, _, rfl, rfl, _, rfl, ?_⟩
      have lk : (kvs rows).length = rows.length := by unfold kvs; rw [List.length_map]
      rw [lk]
      by_cases c8 : (8 : Int) ≤ (rows.length : Int)
      · refine if_t (decide_eq_true c8) ⟨_, rfl, r, CR, dx, fs, _, rfl, h1, T.cl, T.nD, h2, d, _, rfl, h3, _, _, rfl, rfl, ?_⟩
        rw [lk]
        have m8 : due rows y L = .many := by unfold due; rw [if_neg hb', if_neg hk, if_neg c', if_pos (by omega)]
        exact err_way ⟨_, rfl, log_of (by decide) (Nat.lt_of_le_of_lt (show ((rows.length : Int) + 1).natAbs ≤ 61 by omega) (by decide +kernel))⟩ fun d' hd' => r4 m8 H d' (fun _ _ e => e) hd'
      · refine if_f (decide_eq_false c8) ?_
        refine ⟨_, rfl, _, rfl, r, CR, dx, fs, _, rfl, h1, T.cl, T.nD, h2, _, rfl, d, _, rfl, DPut.k (k := .inr y) h3 (by rw [lk]; exact small1000 (by omega)), ?_⟩
        rw [put_kvs L hk']
        exact k (by unfold due; rw [if_neg hb', if_neg hk, if_neg c', if_neg (by omega)])
theorem scNms : FnScope ["self"] ["self"] (defScope sNms) := ⟨rfl, rfl, rfl, by decide +kernel, rfl, by decide +kernel, by decide +kernel⟩
theorem ok_nms {f : Addr} {fd : FuncData} (F : Fun K "names" "Rack.names" sNms f fd) (T : RackTxt K mg CR fN fK) : FnOk P w K mg base CX0 1 f fd ["self"] (spNms CR) := by
  refine F.ok scNms (fun vs H Q E h => ?_) (fun cdv A outer s H vs Q E hr h => ?_)
  · obtain ⟨r, d, rows, rfl, _⟩ := h
    rfl
  · obtain ⟨r, d, rows, rfl, hR, k⟩ := h
    refine ⟨_, (pss_one (ps_ret (pe_callTy (call_listD rfl) (by rfl) T.list (by decide +kernel) (pa_cons (pe_fld (pv 0) rfl) pa_nil)))), ?_⟩
    obtain ⟨⟨dx, fs, h1, h2, _⟩, h3⟩ := id hR
    refine ⟨_, rfl, r, CR, dx, fs, _, rfl, h1, T.cl, T.nD, h2, d, _, rfl, .inl h3, fun p hp => ?_⟩
    have e : (kvs rows).map (fun kv => kV kv.1) = rows.map fun x => V.str x.1 := by
      unfold kvs
      rw [List.map_map]
      rfl
    rw [e]
    exact k p hp
theorem scLof : FnScope ["self", "name"] ["self", "name"] (defScope sLof) := ⟨rfl, rfl, rfl, by decide +kernel, rfl, by decide +kernel, by decide +kernel⟩
theorem ok_lof {f : Addr} {fd : FuncData} (F : Fun K "length_of" "Rack.length_of" sLof f fd) (RU : ErrOk P w K mg base "UnknownName" C.U "name" okTxt) (T : RackTxt K mg CR fN fK) : FnOk P w K mg base (L2.CX P w) 4 f fd ["self", "name"] (spLof C CR) := by
  refine F.okX scLof (fun vs H Q E h => ?_) (fun cdv A outer s H vs Q E hr h => ?_)
  · obtain ⟨r, d, rows, y, rfl, _⟩ := h
    rfl
  · obtain ⟨r, d, rows, y, rfl, hR, fy, k1, k2⟩ := h
    have hr3 : Room 3 _ := hr
    refine ⟨_, (pss_cons (ps_if (pt_cmp (pc_dnotin (hu_of hr) (pv 1) (pe_fld (pv 0) rfl))) (pss_one (ps_err RU rfl (takes_of rfl rfl rfl rfl) hr3 (pa_cons (pv 1) pa_nil) rfl)) pss_nil)
      (pss_one (ps_ret (pe_dget (hu_of hr) (pe_fld (pv 0) rfl) (pv 1) (fun _ _ => rfl))))), ?_⟩
    obtain ⟨⟨dx, fs, h1, h2, _⟩, h3⟩ := id hR
    refine ⟨_, rfl, _, rfl, r, CR, dx, fs, _, rfl, h1, T.cl, T.nD, h2, d, _, rfl, DGet.k (k := .inr y) h3, _, rfl, ?_⟩
    have ev := val_kvs y rows
    cases e : rows.lookup y with
    | none =>
      rw [e] at ev
      rw [ev]
      refine if_t rfl ⟨_, rfl, ?_⟩
      exact err_way fy.ok fun d' hd' => k1 e H d' (fun _ _ e => e) hd'
    | some L =>
      rw [e] at ev
      rw [ev]
      refine if_f rfl ?_
      refine ⟨_, rfl, r, CR, dx, fs, _, rfl, h1, T.cl, T.nD, h2, _, rfl, d, _, rfl, ?_, k2 L e⟩
      have z := DGet.k (k := .inr y) h3
      rw [ev] at z
      exact z
theorem scLen : FnScope ["self"] ["self"] (defScope sLen) := ⟨rfl, rfl, rfl, by decide +kernel, rfl, by decide +kernel, by decide +kernel⟩
theorem ok_len {f : Addr} {fd : FuncData} (F : Fun K "__len__" "Rack.__len__" sLen f fd) (T : RackTxt K mg CR fN fK) : FnOk P w K mg base CX0 1 f fd ["self"] (spLen CR) := by
  refine F.ok scLen (fun vs H Q E h => ?_) (fun cdv A outer s H vs Q E hr h => ?_)
  · obtain ⟨r, d, rows, rfl, _⟩ := h
    rfl
  · obtain ⟨r, d, rows, rfl, hR, k⟩ := h
    refine ⟨_, (pss_one (ps_ret (pe_callB call_lenD (by rfl) T.len PySem.boot_len (pa_cons (pe_fld (pv 0) rfl) pa_nil)))), ?_⟩
    obtain ⟨⟨dx, fs, h1, h2, _⟩, h3⟩ := id hR
    refine ⟨_, rfl, r, CR, dx, fs, _, rfl, h1, T.cl, T.nD, h2, d, _, rfl, h3, ?_⟩
    have lk : (kvs rows).length = rows.length := by unfold kvs; rw [List.length_map]
    rw [lk]
    exact k
theorem scCon : FnScope ["self", "name"] ["self", "name"] (defScope sCon) := ⟨rfl, rfl, rfl, by decide +kernel, rfl, by decide +kernel, by decide +kernel⟩
theorem ok_con {f : Addr} {fd : FuncData} (F : Fun K "__contains__" "Rack.__contains__" sCon f fd) (T : RackTxt K mg CR fN fK) : FnOk P w K mg base CX0 1 f fd ["self", "name"] (spCon CR) := by
  refine F.ok scCon (fun vs H Q E h => ?_) (fun cdv A outer s H vs Q E hr h => ?_)
  · obtain ⟨r, d, rows, y, rfl, _⟩ := h
    rfl
  · obtain ⟨r, d, rows, y, rfl, hR, k⟩ := h
    refine ⟨_, (pss_one (ps_ret (pe_cmp (pc_din (hu_of hr) (pv 1) (pe_fld (pv 0) rfl)) rfl))), ?_⟩
    obtain ⟨⟨dx, fs, h1, h2, _⟩, h3⟩ := id hR
    refine ⟨_, rfl, _, rfl, r, CR, dx, fs, _, rfl, h1, T.cl, T.nD, h2, d, _, rfl, DGet.k (k := .inr y) h3, ?_⟩
    rw [val_kvs, Option.isSome_map, ← known_iff]
    exact k
theorem scRini : FnScope ["self", "lengths", "name", "length"] ((["self"] : List Str) ++ ([("lengths" : Str)] : List Str)) (defScope sRini) := ⟨rfl, rfl, rfl, by decide +kernel, rfl, by decide +kernel, by decide +kernel⟩
theorem ok_rini {f fP : Addr} {fd fdP : FuncData} {ks : List Str} (F : Fun K "__init__" "Rack.__init__" sRini f fd) (RM : ErrOk P w K mg base "TooMany" C.M "count" okInt) (GP : FnOk P w K mg base (L2.CX P w) 5 fP fdP ["self", "name", "length"] (spPut C CR)) (MP : Meth K CR "put" fP) (bP : Binds K fdP ["self", "name", "length"] [])
    (hks : ks.Nodup) (hk60 : ks.length ≤ 60)
    (hb : ∀ us ws : List Value, us.length = 1 → ws.length = ks.length → bindArgs fd ⟨us, ks.zip ws⟩ =
      ((alloc ({ cls := .type "dict", data := .dict #[] } : Obj) : Sem Addr) >>= fun d => (forIn (ks.zip ws) PUnit.unit fun x _ => (nsSet d x.1 x.2 >>= fun _ => pure (ForInStep.yield PUnit.unit))) >>= fun _ => pure ((["self"] : List Str).zip us ++ [(("lengths" : Str), Value.ref d)])))
    (T : RackTxt K mg CR fN fK) : KwX.FnKw P w K mg base (L2.CX P w) 6 f ks (spRini C CR) := by
  obtain ⟨oc, od, kVx, doc, pm, an, cdv, ct, osl, rfl, lk, hcd⟩ := F.ex
  obtain ⟨t3, T3⟩ := T.most
  refine KwX.fn_kw (ps := ["self"]) (pd := "lengths") (sp := spRini C CR) (k := 5) lk hcd scRini StX.cxUp hks hk60 (fun vs H Q E h => ?_) hb fun A outer s H vs Q E hr h => ?_
  · obtain ⟨x, dx, d0, rows, rfl, _⟩ := h
    rfl
  · obtain ⟨x, dx, d0, rows, rfl, hx, hd0, h60, hall, h1, h2⟩ := h
    have hr3 : Room 3 _ := hr.mono (by decide)
    refine ⟨_, (pss_cons (ps_if (pt_cmpR op_gt (pe_callB call_lenD (by rfl) T.len PySem.boot_len (pa_cons (pv 1) pa_nil)) (pe_glob (v := .int 8) rfl T3 ⟨_, rfl⟩) (nomark _)) (pss_one (ps_err RM rfl (takes_of rfl rfl rfl rfl) hr3 (pa_cons (pe_callB call_lenD (by rfl) T.len PySem.boot_len (pa_cons (pv 1) pa_nil)) pa_nil) rfl)) pss_nil)
      (pss_cons (ps_fld (pv 0) pe_dnewK rfl)
      (pss_one (ps_lock (ps_for (passes_of rfl) rfl (pi_items (pv 1)) (pg_tup (by rfl) (pgs_cons (pg_name (i := 2) scRini.nd rfl (Or.inl rfl)) (pgs_cons (pg_name (i := 3) scRini.nd rfl (Or.inl rfl)) pgs_nil))) (pss_one (ps_expr (pe_meth (pv 0) T.cl MP GP hr bP .nil (passes_call (takes_of rfl rfl rfl rfl) fun _ _ _ _ z => z) (pa_cons (pv 2) (pa_cons (pv 3) pa_nil)))))))))), ?_⟩
    have lk : (kvs rows).length = rows.length := by unfold kvs; rw [List.length_map]
    have nxd : x ≠ d0 := fun z => by
      rw [z, hd0] at hx
      cases hx
    refine ⟨_, rfl, d0, _, rfl, hd0, _, _, rfl, rfl, _, rfl, ?_⟩
    rw [lk]
    by_cases c8 : (8 : Int) < (rows.length : Int)
    · refine if_t (decide_eq_true c8) ⟨_, rfl, d0, _, rfl, hd0, ?_⟩
      rw [lk]
      exact err_way ⟨_, rfl, log_of (by decide) (Nat.lt_of_le_of_lt (show ((rows.length : Int)).natAbs ≤ 61 by omega) (by decide +kernel))⟩ fun d' hd' => h1 (by omega) H d' (fun _ _ _ _ e => e) hd'
    · refine if_f (decide_eq_false c8) ?_
      obtain ⟨k1, k2⟩ := h2 (by omega)
      refine fun d hd => ⟨_, rfl, x, CR, dx, _, rfl, by rw [upd_ne (ne_of_none hx hd)]; exact hx, T.cl, T.nD, by show 0 < 1000; decide, ?_⟩
      have ndx : d ≠ x := fun z => by rw [z, hx] at hd; cases hd
      have ndd : d ≠ d0 := fun z => by rw [z, hd0] at hd; cases hd
      have hA0 : (upd (upd H d (.dK [])) x (.ins CR dx (putF "_lengths" (V.ref d) []))) d0 = some (.dK (kvs rows)) := by rw [upd_ne (Ne.symm nxd), upd_ne (Ne.symm ndd)]; exact hd0
      refine ⟨d0, .dK (kvs rows), hA0, trivial, fun od => ?_⟩
      refine ⟨_, rfl, d0, od, kvs rows, rfl, upd_same, ?_⟩
      refine for_it walk_items (fun i σ' H' => ∃ v2 v3 : Option V, σ' = [some (.ref x), some (.ref d0), v2, v3] ∧ H' d0 = some (.frz od (.dK (kvs rows))) ∧ Rck CR H' x d (rows.take i) ∧ firstBad (rows.take i) (rows.drop i) = firstBad [] rows ∧ But x d0 H H')
        ⟨_, _, rfl, upd_same, ⟨⟨dx, _, by rw [upd_ne nxd, upd_same], rfl, fun m hm => ?_⟩, by rw [upd_ne ndd, upd_ne ndx, upd_same]; rfl⟩, rfl, fun b o n1 n2 e => ?_⟩ (fun i σ' H' _ h => ?_) ?_ ?_
      · rw [lookup_putF, if_neg hm]
        rfl
      · rw [upd_ne n2, upd_ne n1, upd_ne (ne_of_none e hd)]
        exact e
      · obtain ⟨_, _, _, h, _⟩ := h
        exact h
      · rintro i z σ' H' H'' hi ⟨v2, v3, rfl, g1, g2, g3, g4⟩ ⟨T, u1, u2, rfl, hT, rfl, e1, e2⟩
        rw [lk] at hi
        obtain ⟨⟨y, L⟩, hyl⟩ : ∃ p, rows[i]? = some p := ⟨_, List.getElem?_eq_getElem hi⟩
        have ek : (kvs rows)[i]? = some (.inr y, .int L) := by
          unfold kvs
          rw [List.getElem?_map, hyl]
          rfl
        obtain rfl : u1 = V.str y := by
          have e1' : Option.map (fun kv : Key × V => kV kv.1) (kvs rows)[i]? = some u1 := e1
          rw [ek] at e1'
          exact (Option.some.inj e1').symm
        obtain rfl : u2 = V.int L := by
          have e2' : Option.map (fun kv : Key × V => kv.2) (kvs rows)[i]? = some u2 := e2
          rw [ek] at e2'
          exact (Option.some.inj e2').symm
        have S : Same H' (upd H' T (.tup [V.str y, .int L])) := fun b o e => by rw [upd_ne (ne_of_none e hT)]; exact e
        have ed : rows.drop i = (y, L) :: rows.drop (i + 1) := by
          rw [List.drop_eq_getElem_cons hi]
          rw [List.getElem?_eq_getElem hi] at hyl
          rw [Option.some.inj hyl]
        have et : rows.take (i + 1) = rows.take i ++ [(y, L)] := by
          rw [List.take_succ, hyl]
          rfl
        have g2' := g2.same S
        obtain ⟨fy, sL⟩ := hall (y, L) (List.mem_of_getElem? hyl)
        obtain ⟨⟨dx', fs', w1, w2, w3⟩, w4⟩ := id g2'
        rw [ed] at g3
        refine ⟨T, _, rfl, SqT.of upd_same, rfl, _, _, rfl, _, _, rfl, rfl, ?_⟩
        refine ⟨_, rfl, ?_⟩
        refine ⟨x, dx', fs', rfl, w1, w3 _ (by decide), _, rfl, _, rfl, x, d, rows.take i, y, L, rfl, g2', by rw [List.length_take]; omega, fy, sL, ?_, fun hp => ?_⟩
        · by_cases hp : due (rows.take i) y L = .put
          · exact ⟨fun c => (by rw [hp] at c; cases c), fun c => (by rw [hp] at c; cases c), fun c => (by rw [hp] at c; cases c), fun c => (by rw [hp] at c; cases c)⟩
          · refine (k1 (rows.take i) y L ?_).at fun H3 s3 b o n1 n2 e => s3 _ _ (S _ _ (g4 b o n1 n2 e))
            rw [← g3]
            show (if due (rows.take i) y L = .put then _ else _) = _
            rw [if_neg hp]
        · refine ⟨_, _, rfl, ?_, ?_, ?_, fun b o n1 n2 e => ?_⟩
          · rw [upd_ne (Ne.symm ndd)]
            exact S _ _ g1
          · rw [et]
            exact g2'.put
          · rw [et, ← g3]
            show _ = (if due (rows.take i) y L = .put then _ else _)
            rw [if_pos hp]
          · have nbd : b ≠ d := fun z => by rw [z, hd] at e; cases e
            rw [upd_ne nbd]
            exact S _ _ (g4 b o n1 n2 e)
      · rintro σ' H' ⟨v2, v3, rfl, g1, g2, g3, g4⟩
        rw [lk, List.take_length] at g2
        rw [lk, List.take_length, List.drop_length] at g3
        refine ⟨g1, k2 g3.symm d _ hd ?_ fun b o n1 n2 e => by rw [upd_ne n2]; exact g4 b o n1 n2 e⟩
        obtain ⟨⟨dx', fs', w1, w2⟩, w3⟩ := g2
        exact ⟨⟨dx', fs', by rw [upd_ne nxd]; exact w1, w2⟩, by rw [upd_ne ndd]; exact w3⟩
end
end Law

namespace Law
open PySem PySem.Spec PyProof.Rows L2 Sup
section
variable {X : Cx} {CX : CXT} {k : Nat} {f : Addr} {sp : Sp} {E : XK} {x : Str} {p pos : Pos} {e : Expr} {es : List Expr} {t : TA}
/-- f(e, ..) of a def that takes its values as they come -/
theorem pe_callR (F : FnR X.prog X.w X.K X.mg X.base CX k f sp) (hr : Room k X.A) (hg : Gl X x) (hm : X.mg x = some (.ref f)) (hk : PySem.W.keepIn X.K (.ref f) = true) (hx : Passes CX X E)
    (ha : PA X (e :: es) t) (hdb : (x == ("__debug__" : Str)) = false := by decide)
    (he : starEach (e :: es) X.env = (false, eval e X.env) :: starEach es X.env := by rfl) (hpl : (backTo pos (starEach es X.env)).any (·.1) = false := by rfl) :
    PE X (.Call (.Name x p) (e :: es) [] pos) (fun σ H Q => t σ H fun vs H1 => sp vs H1 Q E) := by
  refine ⟨fun pins s σ H Q I h => ?_⟩
  refine wpAny_Call_Name_kw (ld_glob I hg hm ?_ hdb)
  refine PySem.W.callWith_K (h₀ := X.base) I.ok.mod.kin hk
    (thn (ha.run pos pins s σ H _ I h) fun us s1 ⟨vs, H1, I1, r, q⟩ => ⟨I1.kIn, ?_⟩) he hpl
  exact wpAny_call (run_fnR F hr hx I1 r q)
theorem pe_callR0 (F : FnR X.prog X.w X.K X.mg X.base CX k f sp) (hr : Room k X.A) (hg : Gl X x) (hm : X.mg x = some (.ref f)) (hk : PySem.W.keepIn X.K (.ref f) = true) (hx : Passes CX X E)
    (hdb : (x == ("__debug__" : Str)) = false := by decide) : PE X (.Call (.Name x p) [] [] pos) (fun σ H Q => sp [] H Q E) := by
  refine ⟨fun pins s σ H Q I h => ?_⟩
  refine wpAny_Call_Name_kw (ld_glob I hg hm ?_ hdb)
  exact PySem.W.callWith_K0 I.kIn hk (wpAny_call (run_fnR (us := []) F hr hx I .nil h))
/-- sum of a tuple of whole numbers -/
theorem cr_sumT (hc : X.calm = true) : CallR X (.builtin "sum") (fun vs H Q => ∃ (a : Addr) (ns : List Int), vs = [V.ref a] ∧ SqT X.K H a (ns.map V.int) ∧ Q (.int ns.sum) H) := by
  intro pins s σ H vs us Q I r h
  obtain ⟨a, ns, rfl, hs, q⟩ := h
  obtain ⟨its, rv, hl, _⟩ := I.tuple hs
  rw [Vals.ref1 r]
  have hi := rv.ints
  obtain ⟨xs, hx⟩ := hi.allInts.items
  have hn : numsOf (intItems xs).toList = ns := by rw [← hx]; exact hi.numsOf
  rw [nums_intItems] at hn
  rw [hx] at hl
  refine PySem.W.ktm_sumG (I.ok.hd hc) hl fun h' tk t' hk => ?_
  rw [preSum_eq, List.take_of_length_le (by simp), hn]
  exact ⟨.int _, H, I.kept hk, ⟨_, rfl⟩, q⟩
end
/-- the way out by BadNumber, from a heap in which all stands as it stood -/
def BadS (C : Addr) (E : XK) (H : Hp) (v : Int) : Prop := ∀ (H' : Hp) (d : Addr), Same H H' → H' d = none → E (.ref C) (some d) (upd H' d (.xd [("value", .int v)]))
/-- the first length that a join refuses -/
def lst (ls : List Int) : Int := if 1 < ls.length then 2 else 0
def refused (ls : List Int) : Option Int := ls.find? fun x => decide (x < lst ls)
def joinLen (ls : List Int) : Int := if ls = [] then 0 else ls.sum - ((ls.length : Int) - 1) * 1
def Small (ls : List Int) : Prop := ls.length ≤ 10 ∧ ∀ x ∈ ls, x.natAbs < 2 ^ 1000
def spJoin (C : Addr) (ls : List Int) (H : Hp) (Q : VK) (E : XK) : Prop := Small ls ∧ (∀ v, refused ls = some v → BadS C E H v) ∧ (refused ls = none → ∀ H', Same H H' → Q (.int (joinLen ls)) H')
def spJoined (C : Addr) : Sp := fun vs H Q E => ∃ ls : List Int, vs = ls.map V.int ∧ spJoin C ls H Q E
/-- the def itself: its parameter is the tuple at p -/
def spJoinT (C : Addr) : Sp := fun vs H Q E => ∃ (p : Addr) (ls : List Int), vs = [.ref p] ∧ H p = some (.tup (ls.map V.int)) ∧ Small ls ∧
  (∀ v, refused ls = some v → Bad C E H v) ∧ (refused ls = none → Q (.int (joinLen ls)) H)
abbrev sJoin : Stmt := top 16
structure OverTxt (K : PySem.W.Frag) (mg : Str → Option Value) (D : Addr) (mc : Value) (u : Value) : Prop where
  g : mg "Ladder" = some (.ref D)
  cr : ClX.CRead K D mc
  cv : ClX.CVal K D mc "OVERLAP" (.int 1) u
  len : mg "len" = none
  sum : mg "sum" = none
section
variable {P : Program} {w : World} {K : PySem.W.Frag} {mg : Str → Option Value} {base : Heap} {C D : Addr} {mc u : Value}
theorem scJoin : FnScope ["lengths", "least", "length"] ["lengths"] (defScope sJoin) := ⟨rfl, rfl, rfl, by decide +kernel, rfl, by decide +kernel, by decide +kernel⟩
theorem find_take {p : Int → Bool} {ls : List Int} {i : Nat} {x : Int} (h : ls[i]? = some x) (hn : (ls.take i).find? p = none) :
    (p x = true → ls.find? p = some x) ∧ (p x = false → (ls.take (i + 1)).find? p = none) := by
  have e : ls = ls.take i ++ x :: ls.drop (i + 1) := by
    obtain ⟨hi, hx⟩ := List.getElem?_eq_some_iff.mp h
    rw [← hx, List.getElem_cons_drop, List.take_append_drop]
  refine ⟨fun hp => ?_, fun hp => ?_⟩
  · rw [e, List.find?_append, hn]
    simp [hp]
  · rw [List.take_succ, h, Option.toList_some, List.find?_append, hn]
    simp [hp]
theorem ok_join {f : Addr} {fd : FuncData} (F : Fun K "joined_length" "joined_length" sJoin f fd) (R : ErrOk P w K mg base "BadNumber" C "value" okInt) (T : OverTxt K mg D mc u)
    (hb : ∀ rest : List Value, bindArgs fd ⟨rest, []⟩ = (newTuple rest >>= fun t => pure [(("lengths" : Str), t)])) : FnR P w K mg base (L2.CX P w) 4 f (spJoined C) := by
  obtain ⟨oc, od, kV, doc, pm, an, cdv, ct, osl, rfl, lk, hcd⟩ := F.ex
  refine (StX.fn_star (ps := []) (pv := "lengths") (sp := spJoinT C) (k := 3) lk hcd scJoin StX.cxUp (fun us rest hl => ?_) fun A outer s H vs Q E hr h => ?_).imp ?_
  · have e : us = [] := List.length_eq_zero_iff.mp hl
    subst e
    exact hb rest
  · obtain ⟨p, ls, rfl, hp, ⟨h10, hsz⟩, h1, h2⟩ := h
    refine ⟨_, (pss_cons (ps_if (pt_not (pt_truth (pv 0) (by intro _; rfl))) (pss_one (ps_ret pe_int)) pss_nil)
      (C8.pss_cut (ps_set (i := 1) scJoin.nd rfl (Or.inl rfl) (pe_ifExp (pt_cmpR op_gt (pe_callB call_len_seq (by rfl) T.len PySem.boot_len (pa_cons (pv 0) pa_nil)) pe_int (nomark _)) (pe_op op_add (ClX.pe_cval (pe_glob (v := .ref D) rfl T.g rfl)) pe_int) pe_int))
      (pss_cons (ps_for (passes_of rfl) rfl (pi_tup (pv 0)) (pg_name (i := 2) scJoin.nd rfl (Or.inl rfl)) (pss_one (ps_if (pt_cmpR op_lt (pv 2) (pv 1) (nomark _)) (pss_one (ps_err R rfl (takes_of rfl rfl rfl rfl) hr (pa_cons (pv 2) pa_nil) rfl)) pss_nil)))
      (pss_one (ps_ret (pe_op op_sub (pe_callB (cr_sumT rfl) (by rfl) T.sum (by decide +kernel) (pa_cons (pv 0) pa_nil)) (pe_op op_mul (pe_op op_sub (pe_callB call_len_seq (by rfl) T.len PySem.boot_len (pa_cons (pv 0) pa_nil)) pe_int) (ClX.pe_cval (pe_glob (v := .ref D) rfl T.g rfl))))))))), ?_⟩
    refine ⟨_, rfl, (!(ls.map V.int).isEmpty), .inr (.inl ⟨_, SqT.of hp, rfl⟩), ?_⟩
    by_cases he : ls = []
    · subst he
      exact if_t rfl (h2 rfl)
    · have hne : (ls.map V.int).isEmpty = false := by
        cases ls with
        | nil => exact absurd rfl he
        | cons a r => rfl
      refine if_f (by rw [hne]; rfl) ?_
      have eL : (((ls.map V.int).length : Nat) : Int) = (ls.length : Int) := by rw [List.length_map]
      refine ⟨fun σ' H' => H = H' ∧ σ' = [some (V.ref p), some (V.int (lst ls)), none], ?_, ?_⟩
      · refine ⟨_, rfl, p, _, rfl, .inr (SqT.of hp), _, _, rfl, rfl, _, rfl, ?_⟩
        rw [eL]
        by_cases c1 : (1 : Int) < (ls.length : Int)
        · refine if_t (decide_eq_true c1) ⟨D, mc, .int 1, u, rfl, T.cr, T.cv, _, _, rfl, rfl, rfl, ?_⟩
          unfold lst
          rw [if_pos (by omega)]
          rfl
        · refine if_f (decide_eq_false c1) ⟨rfl, ?_⟩
          unfold lst
          rw [if_neg (by omega)]
          rfl
      rintro σ' H' ⟨rfl, rfl⟩
      refine ⟨_, rfl, p, rfl, ⟨_, SqT.of hp⟩, for_tup (K := K) (a := p) (xs := ls.map V.int) (fun i σ' H' => H = H' ∧ (∃ v2 : Option V, σ' = [some (V.ref p), some (V.int (lst ls)), v2]) ∧ (ls.take i).find? (fun y => decide (y < lst ls)) = none)
        ⟨rfl, ⟨none, rfl⟩, rfl⟩ (fun i σ' H' _ h => by rw [← h.1]; exact SqT.of hp) ?_ ?_⟩
      · rintro i y σ' H' hi ⟨rfl, ⟨v2, rfl⟩, hf⟩
        obtain ⟨z, hz, rfl⟩ : ∃ z, ls[i]? = some z ∧ y = V.int z := by
          rw [List.getElem?_map] at hi
          cases e : ls[i]? with
          | none =>
            rw [e] at hi
            cases hi
          | some z =>
            rw [e] at hi
            exact ⟨z, rfl, (Option.some.inj hi).symm⟩
        have ft := find_take hz hf
        refine ⟨_, rfl, _, rfl, _, _, rfl, rfl, _, rfl, ?_⟩
        by_cases c : z < lst ls
        · exact if_t (decide_eq_true c) ⟨_, rfl, err_way ⟨z, rfl, log_of (by decide) (Nat.lt_of_lt_of_le (hsz z (List.mem_of_getElem? hz)) (Nat.pow_le_pow_right (by decide) (by decide)))⟩ (h1 z (ft.1 (decide_eq_true c)))⟩
        · exact if_f (decide_eq_false c) ⟨rfl, ⟨_, rfl⟩, ft.2 (decide_eq_false c)⟩
      · rintro σ' H' ⟨rfl, ⟨v2, rfl⟩, hf⟩
        rw [List.length_map, List.take_length] at hf
        refine ⟨_, rfl, p, ls, rfl, SqT.of hp, _, rfl, p, _, rfl, .inr (SqT.of hp), _, _, rfl, rfl, D, mc, .int 1, u, rfl, T.cr, T.cv, _, _, rfl, rfl, .inr ⟨by decide, by decide⟩, _, _, rfl, rfl, ?_⟩
        have k := h2 hf
        unfold joinLen at k
        rw [if_neg he] at k
        rw [eL]
        exact k
  · rintro vs H Q E ⟨ls, rfl, ⟨h10, hsz⟩, h1, h2⟩
    refine ⟨[], ls.map V.int, rfl, rfl, by rw [List.length_map, sizeLine_eq]; omega, fun p hp => ⟨p, ls, rfl, upd_same, ⟨h10, hsz⟩, fun v hv d hd => ?_, fun hn => h2 hn _ fun b o e => by rw [upd_ne (ne_of_none e hp)]; exact e⟩⟩
    exact h1 v hv _ d (fun b o e => by rw [upd_ne (ne_of_none e hp)]; exact e) hd
end
end Law

namespace Law
open PySem PySem.Spec PyProof.Rows L2
theorem passS {X : Cx} {CX : CXT} {E : XK} (h : Passes CX X E) : ∀ σ, PassesAt CX X σ E := fun σ pins H s e s' I c => h pins σ H s e s' I c
end Law

/-! Ladders, made. -/
namespace Law
open PySem PySem.Spec PyProof.Rows L2 Sup
abbrev sInit : Stmt := inClass (top 17) 1
theorem upd_upd {H : Hp} {a : Addr} {o o' : HO} : upd (upd H a o) a o' = upd H a o' := by
  funext b
  by_cases hb : b = a
  · rw [hb, upd_same, upd_same]
  · rw [upd_ne hb, upd_ne hb, upd_ne hb]
/-- a ladder of the class at CL -/
def Lad (CL : Addr) (H : Hp) (x : Addr) (L p : Int) : Prop := ∃ dx fs, H x = some (.ins CL dx fs) ∧ fs.lookup ("length" : Str) = some (V.int L) ∧ fs.lookup ("parts" : Str) = some (V.int p)
theorem Lad.same {CL : Addr} {H H' : Hp} {x : Addr} {L p : Int} (h : Lad CL H x L p) (s : Same H H') : Lad CL H' x L p := by
  obtain ⟨dx, fs, h1, h2⟩ := h
  exact ⟨dx, fs, s _ _ h1, h2⟩
/-- what of the class the text tells -/
structure LadI (K : PySem.W.Frag) (mg : Str → Option Value) (CL fK fJ : Addr) : Prop where
  lad : mg "Ladder" = some (.ref CL)
  chk : mg "check_not_negative" = some (.ref fK)
  join : mg "joined_length" = some (.ref fJ)
  cl : Cls K CL
  nL : NoAttr K CL "length"
  nP : NoAttr K CL "parts"
def spInit (CE CL : Addr) : Sp := fun vs H Q E => ∃ (x : Addr) (L p : Int) (dx : Addr), vs = [.ref x, .int L, .int p] ∧ H x = some (.ins CL dx []) ∧ L.natAbs < 2 ^ 1000 ∧ (L < 0 → BadS CE E H L) ∧
  (0 ≤ L → ∀ fs, fs.lookup ("length" : Str) = some (V.int L) → fs.lookup ("parts" : Str) = some (V.int p) → Q .non (upd H x (.ins CL dx fs)))
theorem mk_lad {CE CL : Addr} {L p : Int} {H1 : Hp} {Q : VK} {E : XK} (hL : L.natAbs < 2 ^ 1000) (h1 : L < 0 → BadS CE E H1 L) (h2 : 0 ≤ L → ∀ x H2, H1 x = none → Same H1 H2 → Lad CL H2 x L p → Q (.ref x) H2) :
    Own.MkS CL (spInit CE CL) E [.int L, .int p] H1 Q := ⟨fun x dx hx hdx hne => by
  have S : Same H1 (upd (upd H1 dx (.own x)) x (.ins CL dx [])) := fun b o e => by
    rw [upd_ne (ne_of_none e hx), upd_ne (ne_of_none e hdx)]
    exact e
  refine ⟨x, L, p, dx, rfl, upd_same, hL, fun c H' d s hd => h1 c H' d (fun b o e => s _ _ (S _ _ e)) hd, fun c fs l1 l2 => ⟨rfl, ?_⟩⟩
  rw [upd_upd]
  refine h2 c x _ hx (fun b o e => ?_) ⟨dx, fs, upd_same, l1, l2⟩
  rw [upd_ne (ne_of_none e hx), upd_ne (ne_of_none e hdx)]
  exact e⟩
section
variable {P : Program} {w : World} {K : PySem.W.Frag} {mg : Str → Option Value} {base : Heap} {CE CL fK fJ : Addr}
theorem scInit : FnScope ["self", "length", "parts"] ["self", "length", "parts"] (defScope sInit) := ⟨rfl, rfl, rfl, by decide +kernel, rfl, by decide +kernel, by decide +kernel⟩
theorem ok_init {f : Addr} {fd fdK : FuncData} (F : FunD K "__init__" "Ladder.__init__" (defArgs sInit) (defBody sInit) (defScope sInit) [.int 1] [] f fd) (R : ErrOk P w K mg base "BadNumber" CE "value" okInt) (FK : Fun K "check_not_negative" "check_not_negative" sChk fK fdK) (bK : Binds K fdK ["number"] [])
    (T : LadI K mg CL fK fJ) : FnOk P w K mg base (L2.CX P w) 5 f fd ["self", "length", "parts"] (spInit CE CL) := by
  have GK : FnOk P w K mg base (L2.CX P w) 4 fK fdK ["number"] (spChk CE) := ok_chk FK R
  refine F.ok scInit (fun vs H Q E h => ?_) (fun cdv A outer s H vs Q E hr h => ?_)
  · obtain ⟨x, L, p, dx, rfl, _⟩ := h
    rfl
  · obtain ⟨x, L, p, dx, rfl, hx, hL, h1, h2⟩ := h
    refine ⟨_, (pss_cons (ps_expr (pe_call (E := E) GK hr rfl T.chk FK.kp bK .nil (passes_call (takes_of rfl rfl rfl rfl) fun _ _ _ _ z => z) (pa_cons (pv 1) pa_nil)))
      (pss_cons (ps_fld (pv 0) (pv 1) rfl)
      (pss_one (ps_fld (pv 0) (pv 2) rfl)))), ?_⟩
    refine ⟨_, rfl, L, rfl, hL, fun c d hd => h1 c H d (fun _ _ e => e) hd, fun c => ?_⟩
    refine ⟨_, rfl, _, rfl, x, CL, dx, _, rfl, hx, T.cl, T.nL, by show 0 < 1000; decide, ?_⟩
    refine ⟨_, rfl, _, rfl, x, CL, dx, _, rfl, upd_same, T.cl, T.nP, by show 1 < 1000; decide, ?_⟩
    rw [upd_upd]
    exact h2 c _ rfl rfl
end
end Law

/-! What the law's own defs of several laws want: comprehensions told by a function, draws, texts as data. -/
namespace Law
open PySem PySem.Spec PyProof.Rows L2
def SameB (b : Addr) (H H' : Hp) : Prop := ∀ c o, c ≠ b → H c = some o → H' c = some o
theorem SameB.of {b : Addr} {H H' : Hp} (k : ∀ c, c ≠ b → H' c = H c) : SameB b H H' := fun c o n e => (k c n).trans e
theorem SameB.trans {b : Addr} {H H1 H2 : Hp} (s : SameB b H H1) (t : SameB b H1 H2) : SameB b H H2 := fun c o n e => t c o n (s c o n e)
theorem SameB.of_same {b : Addr} {H H' : Hp} (s : Same H H') : SameB b H H' := fun c o _ e => s c o e
theorem same_tr {H H1 H2 : Hp} (s : Same H H1) (t : Same H1 H2) : Same H H2 := fun c o e => t c o (s c o e)
theorem same_rfl {H : Hp} : Same H H := fun _ _ e => e
theorem Room.u65 {k : Nat} {A : Around} (r : Room k A) : A.units + 65 < cLine := by have := r.un; omega
theorem Box.free {H : Hp} {b l d : Addr} (B : Box H b l) (h : H d = none) : b ≠ d ∧ l ≠ d := by
  obtain ⟨ns, i, q, s, h1, h2, _⟩ := B
  exact ⟨ne_of_none h1 h, ne_of_none h2 h⟩
theorem Box.at {H : Hp} {b l d : Addr} {o : HO} (B : Box H b l) (n : b ≠ d ∧ l ≠ d) : Box (upd H d o) b l := B.keep fun c hc => by
  rcases hc with rfl | rfl
  · exact upd_ne n.1
  · exact upd_ne n.2
theorem Box.same {H H' : Hp} {b l : Addr} (B : Box H b l) (s : Same H H') : Box H' b l := by
  obtain ⟨ns, i, q, s', h1, h2, h3⟩ := B
  exact ⟨ns, i, q, s', s _ _ h1, s _ _ h2, h3⟩
theorem Box.neT {H : Hp} {b l c : Addr} {xs : List V} (B : Box H b l) (h : H c = some (.tup xs)) : c ≠ b := fun z => by
  obtain ⟨_, _, _, _, q, _⟩ := B
  rw [z, q] at h
  cases h
theorem Box.neD {H : Hp} {b l c : Addr} {kv : List (Key × V)} (B : Box H b l) (h : H c = some (.dK kv)) : c ≠ b ∧ c ≠ l := by
  obtain ⟨_, _, _, _, q, q2, _⟩ := B
  exact ⟨fun z => (by rw [z, q] at h; cases h), fun z => (by rw [z, q2] at h; cases h)⟩
theorem Box.neI {H : Hp} {b l c C dx : Addr} {fs : List (Str × V)} (B : Box H b l) (h : H c = some (.ins C dx fs)) : c ≠ b ∧ c ≠ l := by
  obtain ⟨_, _, _, _, q, q2, _⟩ := B
  exact ⟨fun z => (by rw [z, q] at h; cases h), fun z => (by rw [z, q2] at h; cases h)⟩
theorem same_new {H : Hp} {p : Addr} {o : HO} (h : H p = none) : Same H (upd H p o) := fun b o' e => by
  rw [upd_ne (ne_of_none e h)]
  exact e
theorem none_back {H H' : Hp} {x : Addr} (s : Same H H') (h : H' x = none) : H x = none := by
  cases e : H x with
  | none => rfl
  | some o =>
    have z := s _ _ e
    rw [h] at z
    cases z
/-- within a comprehension whose turn i adds out i (or nothing), all else new -/
def LcP (D : Addr) (H1 : Hp) (out : Nat → Option V) (i : Nat) (H : Hp) : Prop := H D = some (.lst ((List.range i).filterMap out)) ∧ Same H1 H
section
variable {D : Addr} {H1 H H4 : Hp} {out : Nat → Option V} {i : Nat} {y : V}
theorem LcP.start (hD : H1 D = none) : LcP D H1 out 0 (upd H1 D (.lst [])) := ⟨upd_same, same_new hD⟩
theorem fm_len (i : Nat) : ((List.range i).filterMap out).length ≤ i := by
  have := List.length_filterMap_le out (List.range i)
  rw [List.length_range] at this
  exact this
theorem fm_succ : (List.range (i + 1)).filterMap out = (List.range i).filterMap out ++ (out i).toList := by
  rw [List.range_succ, List.filterMap_append]
  cases e : out i <;> simp [e]
theorem LcP.push (h : LcP D H1 out i H) (hD : H1 D = none) (s : Same H H4) (ho : out i = some y) (hi : i < 1000) :
    ∃ acc, H4 D = some (.lst acc) ∧ acc.length < sizeLine ∧ LcP D H1 out (i + 1) (upd H4 D (.lst (acc ++ [y]))) := by
  refine ⟨_, s _ _ h.1, small1000 (Nat.le_of_lt (Nat.lt_of_le_of_lt (fm_len i) hi)), ?_, fun b o e => ?_⟩
  · rw [upd_same, fm_succ, ho]
    rfl
  · rw [upd_ne (ne_of_none e hD)]
    exact s _ _ (h.2 _ _ e)
theorem LcP.skip (h : LcP D H1 out i H) (s : Same H H4) (ho : out i = none) : LcP D H1 out (i + 1) H4 := by
  refine ⟨?_, same_tr h.2 s⟩
  rw [fm_succ, ho, s _ _ h.1]
  simp
end
theorem range_fm {α β : Type} (f : α → Option β) (xs : List α) : (List.range xs.length).filterMap (fun i => xs[i]?.bind f) = xs.filterMap f := by
  induction xs with
  | nil => rfl
  | cons x xs ih =>
    rw [List.length_cons, List.range_succ_eq_map, List.filterMap_cons, List.filterMap_map, List.filterMap_cons]
    have e : (fun i => (x :: xs)[i]?.bind f) ∘ Nat.succ = fun i => xs[i]?.bind f := by
      funext i
      simp
    rw [e, ih]
    simp
theorem range_id {α : Type} (xs : List α) : (List.range xs.length).filterMap (fun i : Nat => xs[i]?) = xs := by
  have e := range_fm (some : α → Option α) xs
  have e1 : (fun i : Nat => xs[i]?.bind some) = fun i : Nat => xs[i]? := by
    funext i
    cases xs[i]? <;> rfl
  rw [e1] at e
  rw [e]
  simp
theorem fm_any {α β : Type} (p : α → Bool) (f : α → β) (xs : List α) : decide ((0 : Int) < (((xs.filterMap fun c => if p c = true then none else some (f c)).length : Nat) : Int)) = xs.any fun c => !p c := by
  induction xs with
  | nil => rfl
  | cons x xs ih =>
    rw [List.filterMap_cons, List.any_cons, ← ih]
    cases h : p x with
    | true => simp
    | false =>
      simp
theorem at_nat {xs : List V} {j : Nat} {v : V} (h : xs[j]? = some v) : atI xs (j : Int) = some v := atI_nat h
/-! texts as data -/
theorem ok_str {y : Str} (h : ∀ c ∈ y.cps.toList, c < 1114112) : PyData.canLay0 (.str y) = true := by
  have e : PyData.canLay0 (.str y) = PyData.strOk y := by simp only [PyData.canLay0]
  rw [e]
  unfold PyData.strOk
  rw [← Array.all_toList, List.all_eq_true]
  intro c hc
  exact decide_eq_true (h c hc)
theorem ok_strs : ∀ {ys : List Str}, (∀ y ∈ ys, ∀ c ∈ y.cps.toList, c < 1114112) → PyData.canLayAll0 (ys.map PyData.str) = true
  | [], _ => by simp only [List.map_nil, PyData.canLayAll0]
  | y :: ys, h => by
    rw [List.map_cons]
    simp only [PyData.canLayAll0]
    rw [Bool.and_eq_true]
    exact ⟨ok_str (h y List.mem_cons_self), ok_strs fun x hx => h x (List.mem_cons_of_mem _ hx)⟩
theorem deep_strs : ∀ ys : List Str, PyData.depthAll (ys.map PyData.str) = 0
  | [] => by simp [PyData.depthAll]
  | y :: ys => by
    rw [List.map_cons]
    simp [PyData.depthAll, PyData.depth, deep_strs ys]
theorem shaped_str {y : Str} (h : ∀ c ∈ y.cps.toList, c < 1114112) : SeqAt.shaped (.str y) = true := by
  unfold SeqAt.shaped
  rw [ok_str h]
  simp [PyData.depth]
theorem shaped_strs {ys : List Str} (h : ∀ y ∈ ys, ∀ c ∈ y.cps.toList, c < 1114112) : SeqAt.shaped (.list (ys.map PyData.str)) = true := by
  unfold SeqAt.shaped
  have e : PyData.canLay0 (.list (ys.map PyData.str)) = true := by
    simp only [PyData.canLay0]
    exact ok_strs h
  rw [e]
  simp [PyData.depth, deep_strs]
theorem dp_strs {K : PySem.W.Frag} {H : Hp} : ∀ ys : List Str, DpAll K H (ys.map V.str) (ys.map PyData.str)
  | [] => .nil
  | _ :: ys => .cons (.str _) (dp_strs ys)
theorem any_strs (ys : List Str) (y : Str) : ((ys.map PyData.str).any fun z => PyData.eqv z (.str y)) = ys.contains y := by
  induction ys with
  | nil => rfl
  | cons x ys ih =>
    rw [List.map_cons, List.any_cons, ih, List.contains_cons]
    have e : PyData.eqv (.str x) (.str y) = (y == x) := by
      simp only [PyData.eqv]
      by_cases h : x = y
      · subst h
        rfl
      · have h1 : (x == y) = false := by simpa using h
        have h2 : (y == x) = false := by simpa using fun z => h z.symm
        rw [h1, h2]
    rw [e]
/-- two shaped data that are told the same are equal -/
theorem eqv_rfl {d : PyData} (h : SeqAt.shaped d = true) : PyData.eqv d d = true := SeqAt.eqv_refl _ (SeqAt.canLay_of_shaped h)
theorem shaped_pair {a b : PyData} (ha : PyData.canLay0 a = true) (hb : PyData.canLay0 b = true) (da : PyData.depth a = 0) (db : PyData.depth b = 0) : SeqAt.shaped (.tuple [a, b]) = true := by
  unfold SeqAt.shaped
  have e : PyData.canLay0 (.tuple [a, b]) = true := by
    simp only [PyData.canLay0, PyData.canLayAll0, ha, hb]
    rfl
  rw [e]
  simp [PyData.depth, PyData.depthAll, da, db]
/-! texts joined without a separator, and cut -/
theorem joinL_mem : ∀ {ls : List (List Nat)} {c : Nat}, c ∈ TL.joinL [] ls → ∃ x ∈ ls, c ∈ x
  | [], c, h => by cases h
  | [p], c, h => ⟨p, List.mem_cons_self, h⟩
  | p :: q :: r, c, h => by
    rcases List.mem_append.mp h with h | h
    · exact ⟨p, List.mem_cons_self, h⟩
    · obtain ⟨x, hx, hc⟩ := joinL_mem (ls := q :: r) h
      exact ⟨x, List.mem_cons_of_mem _ hx, hc⟩
theorem joinL_len : ∀ (ls : List (List Nat)), (TL.joinL [] ls).length = (ls.map List.length).sum
  | [] => rfl
  | [p] => by simp [TL.joinL]
  | p :: q :: r => by
    show (p ++ ([] ++ TL.joinL [] (q :: r))).length = _
    rw [List.nil_append, List.length_append, joinL_len (q :: r)]
    rfl
theorem join_cps (ys : List Str) : (Txt.join "" ys).cps.toList = TL.joinL [] (ys.map fun y => y.cps.toList) := by
  have e := TL.tl_join ("" : Str) ys
  have e2 : Txt.join "" ys = Str.join "" ys := TL.join_eq _ _
  rw [e2]
  exact e
theorem cut_mem {z : Str} {lo hi : Option Int} {c : Nat} (h : c ∈ (cutS z lo hi).cps.toList) : c ∈ z.cps.toList := by
  unfold cutS at h
  exact List.mem_of_mem_drop (List.mem_of_mem_take (by simpa using h))
theorem cut_len {z : Str} {lo hi : Option Int} : (cutS z lo hi).length ≤ z.length := by
  show (((z.cps.toList.drop _).take _).toArray).size ≤ z.cps.size
  simp
  omega
theorem cps_app (a b : Str) : (a ++ b).cps.toList = a.cps.toList ++ b.cps.toList := TL.tl_append a b
end Law

namespace Own
open PySem PySem.Spec PyProof.Rows L2
/-- o.m() that may raise, at the slots σ -/
theorem pe_methW0 {X : Cx} {CX : CXT} {k : Nat} {C f : Addr} {sp : Sp} {E : L2.St → XK} {m : Str} {o : Expr} {ta : TE} {pos apos : Pos} {pl : Sem Bool} (ho : PE X o ta) (c : Cls X.K C) (hm : Meth X.K C m f) (F : FnR X.prog X.w X.K X.mg X.base CX k f sp) (hr : Room k X.A) (hx : ∀ σ, PassesAt CX X σ (E σ))
    (ht : eval (.Call (.Attribute o m apos) [] [] pos) X.env = (do
      let ov ← eval o X.env
      standAt apos.atName
      let (g, first) ← holding [ov] (getMethod ov m pl)
      callWith pos g first (backTo pos (starEach [] X.env)) (backToKw pos (keywordEach [] X.env))) := by rfl) :
    PE X (.Call (.Attribute o m apos) [] [] pos) (tMethS C m sp E ta tNil) := by
  refine ⟨fun pins s σ H Q I h => ?_⟩
  refine PySem.W.methodCall_KW (pl := pl) (thn (ho.run pins s σ H _ I h) fun u s1 ⟨x, H1, I1, rx, a, dx, fs, ex, ea, l, q⟩ => ?_) ht
  subst ex
  cases (show u = Value.ref a from rx)
  refine getmeth_ok I1 ea c hm l (PySem.W.callWith_K0 (first := [.ref a]) I1.kIn hm.kp ?_)
  exact wpAny_call (run_fnRS (us := [.ref a]) (vs := [.ref a]) F hr (hx σ) I1 (.cons rfl .nil) q)
end Own

namespace Law
open PySem PySem.Spec PyProof.Rows L2 Sup
abbrev sJnd : Stmt := inClass (top 18) 4
/-- the first of the names that occurs again -/
def again : List Str → List Str → Option Str
  | _, [] => none
  | seen, y :: r => if seen.contains y = true then some y else again (seen ++ [y]) r
/-- the lengths of the named ladders -/
def lensOf (rows : List Row) (ys : List Str) : List Int := ys.filterMap fun y => rows.lookup y
def strange (rows : List Row) (ys : List Str) : Option Str := ys.find? fun y => !known rows y
structure JOut (C : Errs) (CL : Addr) (rows : List Row) (ys : List Str) (H : Hp) (Q : VK) (E : XK) : Prop where
  unk : ∀ y, strange rows ys = some y → BadX C.U "name" E H (.str y)
  tak : ∀ y, strange rows ys = none → again [] ys = some y → BadX C.T "name" E H (.str y)
  emp : ys = [] → BadX C.B "value" E H (.int 0)
  sho : ∀ v, strange rows ys = none → again [] ys = none → ys ≠ [] → refused (lensOf rows ys) = some v → BadX C.B "value" E H (.int v)
  got : strange rows ys = none → again [] ys = none → ys ≠ [] → refused (lensOf rows ys) = none → ∀ x H', H x = none → Same H H' → Lad CL H' x (joinLen (lensOf rows ys)) ys.length → Q (.ref x) H'
/-- what a join of the rack asks -/
structure JIn (CR : Addr) (rows : List Row) (ys : List Str) (H : Hp) (r d : Addr) : Prop where
  R : Rck CR H r d rows
  few : ys.length ≤ 10
  fit : ∀ y ∈ ys, Fit y
  small : ∀ p ∈ rows, p.2.natAbs < 2 ^ 900
def spJndT (C : Errs) (CR CL : Addr) : Sp := fun vs H Q E => ∃ (r d t : Addr) (rows : List Row) (ys : List Str), vs = [.ref r, .ref t] ∧ H t = some (.tup (ys.map V.str)) ∧ JIn CR rows ys H r d ∧ JOut C CL rows ys H Q E
def spJnd (C : Errs) (CR CL : Addr) : Sp := fun vs H Q E => ∃ (r d : Addr) (rows : List Row) (ys : List Str), vs = .ref r :: ys.map V.str ∧ JIn CR rows ys H r d ∧ JOut C CL rows ys H Q E
theorem joinLen_pos {ls : List Int} (h : refused ls = none) : 0 ≤ joinLen ls := by
  unfold joinLen
  split
  · exact Int.le_refl _
  · have hl : ∀ x ∈ ls, lst ls ≤ x := fun x hx => by
      have z := List.find?_eq_none.mp h x hx
      simpa using z
    have sum_ge : ∀ (m : Int) (xs : List Int), (∀ x ∈ xs, m ≤ x) → (xs.length : Int) * m ≤ xs.sum := fun m xs => by
      induction xs with
      | nil => simp
      | cons x xs ih =>
        intro hx
        have h1 := hx x List.mem_cons_self
        have h2 := ih fun y hy => hx y (List.mem_cons_of_mem _ hy)
        rw [List.sum_cons, List.length_cons]
        have e : ((xs.length + 1 : Nat) : Int) * m = (xs.length : Int) * m + m := by
          rw [Int.natCast_add, Int.add_mul]
          simp
        rw [e]
        omega
    have z := sum_ge _ ls hl
    have hn : 1 ≤ ls.length := by
      cases ls with
      | nil => contradiction
      | cons x xs => simp
    unfold lst at z
    split at z
    · omega
    · have e : ls.length = 1 := by omega
      rw [e] at z ⊢
      omega
theorem sum_small : ∀ {ls : List Int}, (∀ x ∈ ls, x.natAbs < 2 ^ 900) → ls.sum.natAbs ≤ ls.length * 2 ^ 900
  | [], _ => by simp
  | x :: xs, h => by
    have h1 := h x List.mem_cons_self
    have h2 := sum_small fun y hy => h y (List.mem_cons_of_mem _ hy)
    rw [List.sum_cons, List.length_cons, Nat.add_mul]
    generalize (2 : Nat) ^ 900 = m at h1 h2 ⊢
    generalize xs.length * m = a at h2 ⊢
    omega
theorem joinLen_small {ls : List Int} (h : ∀ x ∈ ls, x.natAbs < 2 ^ 900) (h10 : ls.length ≤ 10) : (joinLen ls).natAbs < 2 ^ 1000 := by
  unfold joinLen
  split
  · decide +kernel
  · have z := sum_small h
    have e : 10 * 2 ^ 900 + 20 < 2 ^ 1000 := by decide +kernel
    have e2 : ls.length * 2 ^ 900 ≤ 10 * 2 ^ 900 := Nat.mul_le_mul_right _ h10
    generalize (2 : Nat) ^ 1000 = M at e ⊢
    generalize (2 : Nat) ^ 900 = m at e e2 z
    generalize ls.length * m = a at e2 z
    omega
theorem lens_mem {rows : List Row} {ys : List Str} (hs : ∀ p ∈ rows, p.2.natAbs < 2 ^ 900) : ∀ x ∈ lensOf rows ys, x.natAbs < 2 ^ 900 := fun x hx => by
  obtain ⟨y, _, hy⟩ := List.mem_filterMap.mp hx
  have key : ∀ (l : List Row), l.lookup y = some x → ∃ p ∈ l, p.2 = x := fun l => by
    induction l with
    | nil => intro h; cases h
    | cons p r ih =>
      obtain ⟨n, m⟩ := p
      intro h
      rw [List.lookup] at h
      split at h
      · cases h
        exact ⟨_, List.mem_cons_self, rfl⟩
      · obtain ⟨p, hp, e⟩ := ih h
        exact ⟨p, List.mem_cons_of_mem _ hp, e⟩
  obtain ⟨p, hp, rfl⟩ := key rows hy
  exact hs p hp
theorem find_split {p : Str → Bool} {ys : List Str} {i : Nat} {y : Str} (h : ys[i]? = some y) (hn : ∀ x ∈ ys.take i, p x = false) (hp : p y = true) : ys.find? p = some y := by
  have e : ys = ys.take i ++ y :: ys.drop (i + 1) := by
    obtain ⟨hi, hx⟩ := List.getElem?_eq_some_iff.mp h
    rw [← hx, List.getElem_cons_drop, List.take_append_drop]
  rw [e, List.find?_append, List.find?_eq_none.mpr fun x hx => by rw [hn x hx]; decide]
  simp [hp]
theorem take_succ_mem {ys : List Str} {i : Nat} {y : Str} (h : ys[i]? = some y) {x : Str} (hx : x ∈ ys.take (i + 1)) : x ∈ ys.take i ∨ x = y := by
  rw [List.take_succ, h, Option.toList_some] at hx
  rcases List.mem_append.mp hx with hx | hx
  · exact .inl hx
  · exact .inr (List.mem_singleton.mp hx)
def seenK (ys : List Str) : List (Key × V) := ys.map fun y => (.inr y, .bl true)
theorem val_seen (y : Str) : ∀ ys : List Str, (valV (seenK ys) (.inr y)).isSome = ys.contains y
  | [] => rfl
  | x :: r => by
    have ih := val_seen y r
    show (valV ((.inr x, V.bl true) :: seenK r) (.inr y)).isSome = _
    rw [List.contains_cons]
    by_cases e : x = y
    · subst e
      rw [valV_pos rfl]
      simp
    · rw [valV_neg (fun z => e (Sum.inr.inj z)), ih]
      have q : (y == x) = false := by simpa using fun z => e z.symm
      rw [q, Bool.false_or]
theorem put_seen {ys : List Str} {y : Str} (h : ys.contains y = false) : putK (seenK ys) (.inr y) (.bl true) = seenK (ys ++ [y]) := by
  rw [putK_new _ (by have z := val_seen y ys; rw [h] at z; cases e : valV (seenK ys) (.inr y) with | none => rfl | some v => rw [e] at z; cases z)]
  unfold seenK
  rw [List.map_append]
  rfl
section
variable {P : Program} {w : World} {K : PySem.W.Frag} {mg : Str → Option Value} {base : Heap} {C : Errs} {CR CL fN fK fJ fI fL : Addr}
theorem scJnd : FnScope ["self", "names", "name", "lengths", "seen"] ((["self"] : List Str) ++ ([("names" : Str)] : List Str)) (defScope sJnd) := ⟨rfl, rfl, rfl, by decide +kernel, rfl, by decide +kernel, by decide +kernel⟩
set_option maxHeartbeats 0 in
theorem ok_jnd {f : Addr} {fd : FuncData} (F : Fun K "joined" "Rack.joined" sJnd f fd) (RT : ErrOk P w K mg base "TakenName" C.T "name" okTxt) (RB : ErrOk P w K mg base "BadNumber" C.B "value" okInt) (GL : FnR P w K mg base (L2.CX P w) 4 fL (spLof C CR)) (ML : Meth K CR "length_of" fL)
    (GJ : FnR P w K mg base (L2.CX P w) 4 fJ (spJoined C.B)) (kJ : PySem.W.keepIn K (.ref fJ) = true) (MK : Mk K CL fI) (GI : FnR P w K mg base (L2.CX P w) 5 fI (spInit C.B CL)) (T : RackTxt K mg CR fN fK) (LT : LadI K mg CL fK fJ)
    (hb : ∀ us rest : List Value, us.length = 1 → bindArgs fd ⟨us ++ rest, []⟩ = (newTuple rest >>= fun t => pure ((["self"] : List Str).zip us ++ [(("names" : Str), t)]))) : FnR P w K mg base (L2.CX P w) 7 f (spJnd C CR CL) := by
  obtain ⟨oc, od, kVx, doc, pm, an, cdv, ct, osl, rfl, lk, hcd⟩ := F.ex
  refine (StX.fn_star (ps := ["self"]) (pv := "names") (sp := spJndT C CR CL) (k := 6) lk hcd scJnd StX.cxUp hb fun A outer s H vs Q E hr h => ?_).imp ?_
  · obtain ⟨r, d, t, rows, ys, rfl, ht, ⟨hR, h10, hF, hS⟩, ⟨o1, o2, o3, o4, o5⟩⟩ := h
    have hr3 : Room 3 _ := hr.mono (by decide)
    have hr4 : Room 4 _ := hr.mono (by decide)
    refine ⟨_, (pss_cons (CompX.ps_setLcX (i := 3) (own := [("name", 2)]) (g := gName 2) (tt := tYes) (te := fun E => Own.tMethS CR "length_of" (spLof C CR) (fun _ => E) (tVar 0) (tCons (tVar 2) tNil)) rfl rfl (takes_of rfl rfl rfl rfl) rfl rfl (sw_true rfl rfl rfl (by decide +kernel))
        { calm := rfl, nd := scJnd.nd, it := pi_tup (pv 1), ok := blkOk_by (own := [("name", 2)]) (N := ["self", "names", "name", "lengths", "seen"]) (sc := defScope sJnd) (by decide +kernel), tgt := fun _ _ _ _ _ _ => pg_name (i := 2) scJnd.nd rfl (Or.inl rfl), tst := fun _ _ _ _ _ _ => pts_nil,
          elm := fun _ _ _ _ _ _ E hp => Own.pe_methW (E := fun _ => E) (pv 0) T.cl ML GL hr4 hp (pa_cons (pv 2) pa_nil), fold := by intro _; rfl })
      (pss_cons (ps_set (i := 4) scJnd.nd rfl (Or.inl rfl) pe_dnewK)
      (pss_cons (ps_for (passes_of rfl) rfl (pi_tup (pv 1)) (pg_name (i := 2) scJnd.nd rfl (Or.inl rfl)) (pss_cons (ps_if (pt_cmp (pc_din (hu_of hr) (pv 2) (pv 4))) (pss_one (ps_err RT rfl (takes_of rfl rfl rfl rfl) hr3 (pa_cons (pv 2) pa_nil) rfl)) pss_nil)
      (pss_one (ps_dput (hu_of hr) (pv 4) (pv 2) pe_bl rfl))))
      (pss_cons (ps_if (pt_not (pt_truth (pv 1) (by intro _; rfl))) (pss_one (ps_err RB rfl (takes_of rfl rfl rfl rfl) hr3 (pa_cons pe_int pa_nil) rfl)) pss_nil)
      (pss_one (ps_ret (Own.pe_makeS (E := fun _ => E) MK GI hr rfl LT.lad (passS (passes_call (takes_of rfl rfl rfl rfl) fun _ _ _ _ z => z)) (pa_cons (StX.pe_callS1 (E := E) GJ hr4 kJ rfl LT.join (passes_call (takes_of rfl rfl rfl rfl) fun _ _ _ _ z => z) (pv 3)) (pa_cons (pe_callB call_len_seq (by rfl) T.len PySem.boot_len (pa_cons (pv 1) pa_nil)) pa_nil))))))))), ?_⟩
    obtain ⟨⟨dx, fs, w1, w2, w3⟩, w4⟩ := id hR
    -- the lengths
    refine ⟨_, rfl, t, rfl, ⟨_, SqT.of ht⟩, fun D hD => ?_⟩
    refine lc_it (walk_tup (xs := ys.map V.str)) (fun i H' => LcP D H (fun i => ys[i]?.bind fun y => (rows.lookup y).map V.int) i H' ∧ ∀ y ∈ ys.take i, known rows y = true) ⟨LcP.start hD, fun _ h => nomatch h⟩ (fun _ _ _ h => SqT.of (h.1.2 _ _ ht)) ?_ ?_
    · rintro i x H1 H2 hi ⟨p, hk⟩ ⟨rfl, hx⟩
      rw [List.length_map] at hi
      obtain ⟨y, hy⟩ : ∃ y, ys[i]? = some y := ⟨_, List.getElem?_eq_getElem hi⟩
      rw [List.getElem?_map, hy] at hx
      cases hx
      have hR1 := hR.same p.2
      obtain ⟨⟨dx1, fs1, v1, v2, v3⟩, v4⟩ := id hR1
      have fy := hF y (List.mem_of_getElem? hy)
      refine ⟨rfl, _, rfl, r, dx1, fs1, rfl, v1, v3 _ (by decide), _, rfl, r, d, rows, y, rfl, hR1, fy, fun e H' d' S hd => ?_, fun L e => ?_⟩
      · refine o1 y (find_split hy (fun x hx => by rw [hk x hx]; rfl) (by rw [known_iff, e]; rfl)) H' d' (same_tr p.2 S) hd
      · obtain ⟨acc, a1, a2, a3⟩ := p.push hD same_rfl (y := V.int L) (by rw [hy]; simp [e]) (by omega)
        refine ⟨acc, a1, a2, a3, fun x hx => ?_⟩
        rcases take_succ_mem hy hx with hx | rfl
        · exact hk x hx
        · rw [known_iff, e]
          rfl
    rintro H1 ⟨⟨g1, s1⟩, hk⟩
    rw [List.length_map] at g1 hk
    rw [List.take_length] at hk
    rw [range_fm] at g1
    have hst : strange rows ys = none := List.find?_eq_none.mpr fun y hy => by rw [hk y hy]; decide
    have el : ys.filterMap (fun y => (rows.lookup y).map V.int) = (lensOf rows ys).map V.int := by
      unfold lensOf
      rw [List.map_filterMap]
    rw [el] at g1
    -- no name twice
    refine fun ds hds => ?_
    have nDs : D ≠ ds := ne_of_none g1 hds
    have ht1 := s1 _ _ ht
    have s2 := same_tr s1 (same_new (o := .dK []) hds)
    refine ⟨_, rfl, t, rfl, ⟨_, SqT.of (s2 _ _ ht)⟩, for_it (walk_tup (xs := ys.map V.str)) (fun i σ' H' => ∃ v2 : Option V, σ' = [some (.ref r), some (.ref t), v2, some (.ref D), some (.ref ds)] ∧ H' ds = some (.dK (seenK (ys.take i))) ∧ Same H H' ∧ H' D = some (.lst ((lensOf rows ys).map V.int)) ∧ again [] ys = again (ys.take i) (ys.drop i))
      ⟨_, rfl, upd_same, s2, by rw [upd_ne nDs]; exact g1, rfl⟩ (fun i σ' H' _ h => ?_) ?_ ?_⟩
    · obtain ⟨_, _, _, S, _⟩ := h
      exact SqT.of (S _ _ ht)
    · rintro i x σ' H2 H3 hi ⟨v2, rfl, k1, k2, k3, k4⟩ ⟨rfl, hx⟩
      rw [List.length_map] at hi
      obtain ⟨y, hy⟩ : ∃ y, ys[i]? = some y := ⟨_, List.getElem?_eq_getElem hi⟩
      rw [List.getElem?_map, hy] at hx
      cases hx
      have ed : ys.drop i = y :: ys.drop (i + 1) := by
        rw [List.drop_eq_getElem_cons hi]
        rw [List.getElem?_eq_getElem hi] at hy
        rw [Option.some.inj hy]
      have et : ys.take (i + 1) = ys.take i ++ [y] := by
        rw [List.take_succ, hy]
        rfl
      have lk2 : (seenK (ys.take i)).length ≤ 10 := by
        unfold seenK
        rw [List.length_map, List.length_take]
        omega
      refine ⟨_, rfl, _, rfl, ds, _, rfl, DGet.k (k := .inr y) k1, _, rfl, ?_⟩
      rw [val_seen]
      rw [ed] at k4
      by_cases c : (ys.take i).contains y = true
      · refine if_t c ⟨_, rfl, err_way (hF y (List.mem_of_getElem? hy)).ok fun d' hd' => o2 y hst ?_ H3 d' k2 hd'⟩
        rw [k4]
        unfold again
        rw [if_pos c]
      · have cf : (ys.take i).contains y = false := Bool.eq_false_iff.mpr c
        refine if_f cf ?_
        refine ⟨_, rfl, _, rfl, ds, _, rfl, DPut.k (k := .inr y) k1 (small1000 (by omega)), ?_⟩
        rw [put_seen cf]
        have nt : t ≠ ds := fun z => by
          have := k2 _ _ ht
          rw [z, k1] at this
          cases this
        refine ⟨_, rfl, by rw [upd_same, et], fun b o e => ?_, ?_, ?_⟩
        · have nb : b ≠ ds := ne_of_none (s1 _ _ e) hds
          rw [upd_ne nb]
          exact k2 _ _ e
        · rw [upd_ne nDs]
          exact k3
        · rw [k4, et]
          conv => lhs; unfold again
          rw [if_neg c]
    rintro σ' H2 ⟨v2, rfl, k1, k2, k3, k4⟩
    rw [List.length_map, List.take_length, List.drop_length] at k4
    have hag : again [] ys = none := k4
    -- at least one
    refine ⟨_, rfl, _, .inr (.inl ⟨_, SqT.of (k2 _ _ ht), rfl⟩), ?_⟩
    by_cases he : ys = []
    · subst he
      refine if_t rfl ?_
      exact err_way ⟨0, rfl, by decide⟩ fun d' hd' => o3 rfl H2 d' k2 hd'
    refine if_f (by cases ys with | nil => exact absurd rfl he | cons a l => rfl) ?_
    have lenL : (lensOf rows ys).length ≤ 10 := Nat.le_trans (List.length_filterMap_le _ _) h10
    have sml := lens_mem (ys := ys) hS
    refine ⟨_, rfl, D, _, rfl, .inr (SqL.of k3), lensOf rows ys, rfl, ⟨lenL, fun x hx => Nat.lt_of_lt_of_le (sml x hx) (Nat.pow_le_pow_right (by decide) (by decide))⟩, fun v hv H' d' S hd => o4 v hst hag he hv H' d' (same_tr k2 S) hd, fun hn H' S => ?_⟩
    refine ⟨_, rfl, t, _, rfl, .inr (SqT.of (S _ _ (k2 _ _ ht))), ?_⟩
    rw [List.length_map]
    refine mk_lad (joinLen_small sml lenL) (fun c => absurd (joinLen_pos hn) (by omega)) fun _ x H5 hx S5 hl => ?_
    exact o5 hst hag he hn x H5 (none_back (same_tr k2 S) hx) (same_tr (same_tr k2 S) S5) hl
  · rintro vs H Q E ⟨r, d, rows, ys, rfl, ⟨hR, h10, hF, hS⟩, ⟨o1, o2, o3, o4, o5⟩⟩
    refine ⟨[.ref r], ys.map V.str, rfl, rfl, by rw [List.length_map, sizeLine_eq]; omega, fun p hp => ?_⟩
    have S := same_new (o := .tup (ys.map V.str)) hp
    refine ⟨r, d, p, rows, ys, rfl, upd_same, ⟨hR.same S, h10, hF, hS⟩, ⟨fun y e H' d' s hd => o1 y e H' d' (same_tr S s) hd, fun y e1 e2 H' d' s hd => o2 y e1 e2 H' d' (same_tr S s) hd, fun e H' d' s hd => o3 e H' d' (same_tr S s) hd,
      fun v e1 e2 e3 e4 H' d' s hd => o4 v e1 e2 e3 e4 H' d' (same_tr S s) hd, fun e1 e2 e3 e4 x H' hx s hl => o5 e1 e2 e3 e4 x H' (none_back S hx) (same_tr S s) hl⟩⟩
end
end Law

namespace Law
open PySem PySem.Spec PyProof.Rows L2
/-- the law's own rows: a list of tuples -/
def RowsAt (H : Hp) (l : Addr) (rows : List Row) : Prop := ∃ ts : List Addr, H l = some (.lst (ts.map V.ref)) ∧ ts.length = rows.length ∧ ∀ (i : Nat) (t : Addr) (y : Str) (L : Int), ts[i]? = some t → rows[i]? = some (y, L) → H t = some (.tup [.str y, .int L])
theorem RowsAt.same {H H' : Hp} {l : Addr} {rows : List Row} (h : RowsAt H l rows) (s : Same H H') : RowsAt H' l rows := by
  obtain ⟨ts, h1, h2, h3⟩ := h
  exact ⟨ts, s _ _ h1, h2, fun i t y L e1 e2 => s _ _ (h3 i t y L e1 e2)⟩
theorem RowsAt.neB {H : Hp} {l b l0 : Addr} {rows : List Row} (h : RowsAt H l rows) (B : Box H b l0) : l ≠ b := fun z => by
  obtain ⟨ts, h1, _⟩ := h
  obtain ⟨_, _, _, _, q, _⟩ := B
  rw [z, q] at h1
  have e := HO.lst.inj (Option.some.inj h1)
  match ts, e with
  | [], e => cases e
  | [_], e => cases e
  | _ :: _ :: _, e =>
    rw [List.map_cons, List.map_cons] at e
    injection e with _ e
    injection e with e _
    cases e
theorem RowsAt.sameB {H H' : Hp} {l b l0 : Addr} {rows : List Row} (h : RowsAt H l rows) (B : Box H b l0) (s : SameB b H H') : RowsAt H' l rows := by
  have n := h.neB B
  obtain ⟨ts, h1, h2, h3⟩ := h
  exact ⟨ts, s _ _ n h1, h2, fun i t y L e1 e2 => s _ _ (B.neT (h3 i t y L e1 e2)) (h3 i t y L e1 e2)⟩
theorem RowsAt.len {H : Hp} {l : Addr} {rows : List Row} (h : RowsAt H l rows) : ∃ xs, H l = some (.lst xs) ∧ xs.length = rows.length := by
  obtain ⟨ts, h1, h2, _⟩ := h
  exact ⟨_, h1, by rw [List.length_map, h2]⟩
theorem RowsAt.at {H : Hp} {l : Addr} {rows : List Row} {i : Nat} {y : Str} {L : Int} (h : RowsAt H l rows) (e : rows[i]? = some (y, L)) : ∃ xs t, H l = some (.lst xs) ∧ xs[i]? = some (.ref t) ∧ H t = some (.tup [.str y, .int L]) := by
  obtain ⟨ts, h1, h2, h3⟩ := h
  have hi : i < rows.length := (List.getElem?_eq_some_iff.mp e).1
  have hi' : i < ts.length := by omega
  exact ⟨_, ts[i], h1, by rw [List.getElem?_map, List.getElem?_eq_getElem hi']; rfl, h3 i _ y L (List.getElem?_eq_getElem hi') e⟩
end Law

/-! the law's rows: a list of tuples (a text, an int), and the texts of them -/
namespace Law
open PySem PySem.Spec PyProof.Rows L2
theorem r_names {K : PySem.W.Frag} {i j : Nat} {σ : L2.St} {H : Hp} {Q : VK} {rl : Addr} {rows : List Row} (hi : σ[i]? = some (some (.ref rl))) (hij : i ≠ j) (hj : j < σ.length) (R : RowsAt H rl rows) (h60 : rows.length ≤ 900)
    (k : ∀ D H', H D = none → H' D = some (.lst ((rows.map (·.1)).map V.str)) → Same H H' → Q (.ref D) H') : tLc (iList K (tVar i)) (gName j) tYes (tOp (rIxT K) (tVar j) (tC (.int 0))) [j] σ H Q := by
  obtain ⟨ts, hl, hts, hrow⟩ := R
  refine ⟨_, hi, rl, rfl, ⟨_, SqL.of hl⟩, fun D hD => ?_⟩
  refine lc_it walk_list (LcP D H fun i => ((rows.map (·.1)).map V.str)[i]?) (LcP.start hD) (fun _ _ _ h => SqL.of (h.2 _ _ hl)) ?_ ?_
  · rintro m x H3 H4 hm p ⟨rfl, hx⟩
    rw [List.length_map] at hm
    rw [List.getElem?_map, List.getElem?_eq_getElem hm] at hx
    cases hx
    obtain ⟨⟨n, l⟩, hn⟩ : ∃ p, rows[m]? = some p := ⟨_, List.getElem?_eq_getElem (by omega)⟩
    have ht := hrow m _ n l (List.getElem?_eq_getElem hm) hn
    refine ⟨?_, _, ?_, _, _, _, _, rfl, rfl, SqT.of (p.2 _ _ ht), rfl, p.push hD same_rfl (by rw [List.getElem?_map, List.getElem?_map, hn]; rfl) (by omega)⟩
    · show List.set (List.set (List.set σ j none) j _) j none = List.set σ j none
      rw [List.set_set, List.set_set]
    · show (List.set (List.set σ j none) j _)[j]? = _
      rw [List.getElem?_set_self (by rw [List.length_set]; exact hj)]
  rintro H3 ⟨g1, g2⟩
  rw [List.length_map, hts, show rows.length = ((rows.map (·.1)).map V.str).length by simp, range_id] at g1
  exact k D H3 hD g1 g2
end Law

namespace Law
open PySem PySem.Spec PyProof.Rows L2 Sup
section
variable {C : Errs} {CR : Addr}
/-- C(..) of racks -/
theorem mk_rack {ks : List Str} {zs : List V} {E : XK} {H1 : Hp} {Q : VK} (rows : List Row) (hk : KwX.kwD ks zs = kvs rows) (hl : zs.length = ks.length) (h60 : rows.length ≤ 60) (hall : ∀ p ∈ rows, Fit p.1 ∧ p.2.natAbs < 2 ^ 1000)
    (hm : 8 < rows.length → BadX C.M "count" E H1 (.int rows.length)) (hr : rows.length ≤ 8 → ∀ acc y L, firstBad [] rows = some (acc, y, L) → Refused C E H1 acc y L)
    (hok : rows.length ≤ 8 → firstBad [] rows = none → ∀ (x d : Addr) (H' : Hp), H1 x = none → H1 d = none → x ≠ d → Same H1 H' → Rck CR H' x d rows → Q (.ref x) H') : KwX.MkW CR ks (spRini C CR) E zs H1 Q := by
  refine ⟨hl, fun x dx d0 nx ndx n1 nd0 n2 n3 => ?_⟩
  have S0 : ∀ {H'}, But x d0 (upd (upd (upd H1 dx (.own x)) x (.ins CR dx [])) d0 (.dK (KwX.kwD ks zs))) H' → Same H1 H' := fun {H'} g b o e => by
    have m1 : b ≠ x := ne_of_none e nx
    have m2 : b ≠ dx := ne_of_none e ndx
    have m3 : b ≠ d0 := ne_of_none e nd0
    exact g b o m1 m3 (by rw [upd_ne m3, upd_ne m1, upd_ne m2]; exact e)
  refine ⟨x, dx, d0, rows, rfl, by rw [upd_ne (Ne.symm n2), upd_same], by rw [upd_same, hk], h60, hall, fun c H' d' g hd => hm c H' d' (S0 g) hd, fun c => ⟨fun acc y L e => ?_, fun e d' H' hd R g => ⟨rfl, ?_⟩⟩⟩
  · obtain ⟨r1, r2, r3, r4⟩ := hr c acc y L e
    exact ⟨fun z H' d' g hd => r1 z H' d' (S0 g) hd, fun z H' d' g hd => r2 z H' d' (S0 g) hd, fun z H' d' g hd => r3 z H' d' (S0 g) hd, fun z H' d' g hd => r4 z H' d' (S0 g) hd⟩
  · have m1 : d' ≠ x := fun z => by
      subst z
      rw [upd_ne (Ne.symm n2), upd_same] at hd
      cases hd
    have m2 : d' ≠ d0 := fun z => by
      subst z
      rw [upd_same] at hd
      cases hd
    have hd1 : H1 d' = none := by
      rw [upd_ne m2, upd_ne m1] at hd
      by_cases z : d' = dx
      · subst z
        exact ndx
      · rw [upd_ne z] at hd
        exact hd
    exact hok c e x d' H' nx hd1 (Ne.symm m1) (S0 g) R
end
instance {y : Str} : Decidable (Fit y) := by unfold Fit; infer_instance
end Law

namespace Law
open PySem PySem.Spec PyProof.Rows L2 Sup
structure Wld (CR : Addr) (H : Hp) (b l r d rl : Addr) (rows : List Row) : Prop where
  B : Box H b l
  R : Rck CR H r d rows
  A : RowsAt H rl rows
  n8 : rows.length ≤ 8
  fit : ∀ p ∈ rows, Fit p.1
  nd : (rows.map (·.1)).Nodup
  nl : rl ≠ l
section
variable {CR : Addr} {H H' : Hp} {b l r d rl : Addr} {rows : List Row}
theorem Rck.sameB (h : Rck CR H r d rows) (B : Box H b l) (s : SameB b H H') : Rck CR H' r d rows := by
  obtain ⟨⟨dx, fs, h1, h2⟩, h3⟩ := h
  exact ⟨⟨dx, fs, s _ _ (B.neI h1).1 h1, h2⟩, s _ _ (B.neD h3).1 h3⟩
theorem Wld.draw (W : Wld CR H b l r d rl rows) (B' : Box H' b l) (s : SameB b H H') : Wld CR H' b l r d rl rows := ⟨B', W.R.sameB W.B s, W.A.sameB W.B s, W.n8, W.fit, W.nd, W.nl⟩
theorem Wld.same (W : Wld CR H b l r d rl rows) (s : Same H H') : Wld CR H' b l r d rl rows := ⟨W.B.same s, W.R.same s, W.A.same s, W.n8, W.fit, W.nd, W.nl⟩
/-- after a put: the rack has the ladder, the law's rows do not yet -/
structure Mid (CR : Addr) (H : Hp) (b l r d rl : Addr) (rows rows' : List Row) : Prop where
  B : Box H b l
  R : Rck CR H r d rows'
  A : RowsAt H rl rows
theorem Wld.put {y : Str} {L : Int} (W : Wld CR H b l r d rl rows) (s : Same (upd H d (.dK (kvs (rows ++ [(y, L)])))) H') : Mid CR H' b l r d rl rows (rows ++ [(y, L)]) := by
  have nb := W.B.neD W.R.2
  have hd : ∀ c o, c ≠ d → H c = some o → H' c = some o := fun c o n e => s c o (by rw [upd_ne n]; exact e)
  refine ⟨?_, W.R.put.same s, ?_⟩
  · obtain ⟨ns, i, q, s', h1, h2, h3⟩ := W.B
    exact ⟨ns, i, q, s', hd _ _ (Ne.symm nb.1) h1, hd _ _ (Ne.symm nb.2) h2, h3⟩
  · obtain ⟨ts, h1, h2, h3⟩ := W.A
    have ne : ∀ {c : Addr} {xs : List V}, H c = some (.lst xs) ∨ H c = some (.tup xs) → c ≠ d := fun {c xs} h z => by
      have hd := W.R.2
      rw [z, hd] at h
      rcases h with h | h <;> cases h
    exact ⟨ts, hd _ _ (ne (.inl h1)) h1, h2, fun i t y' L' e1 e2 => hd _ _ (ne (.inr (h3 i t y' L' e1 e2))) (h3 i t y' L' e1 e2)⟩
theorem known_mem {y : Str} (h : known rows y = false) : y ∉ rows.map (·.1) := fun z => by
  have e : known rows y = true := List.contains_iff_mem.mpr z
  rw [e] at h
  cases h
theorem Mid.push {y : Str} {L : Int} {t : Addr} {xs : List V} (M : Mid CR H b l r d rl rows (rows ++ [(y, L)])) (fit : ∀ p ∈ rows, Fit p.1) (nd : (rows.map (·.1)).Nodup) (nl : rl ≠ l) (hdue : due rows y L = .put) (fy : Fit y)
    (ht : H t = none) (hl : H rl = some (.lst xs)) : Wld CR (upd (upd H t (.tup [.str y, .int L])) rl (.lst (xs ++ [.ref t]))) b l r d rl (rows ++ [(y, L)]) := by
  have hk : badN y = false ∧ known rows y = false ∧ ¬ L < 0 ∧ rows.length < 8 := by
    unfold due at hdue
    split at hdue
    · cases hdue
    split at hdue
    · cases hdue
    split at hdue
    · cases hdue
    split at hdue
    · cases hdue
    rename_i h1 h2 h3 h4
    exact ⟨by simpa using h1, by simpa using h2, h3, by omega⟩
  have nt : rl ≠ t := ne_of_none hl ht
  have nb := M.A.neB M.B
  have fr := M.B.free ht
  refine ⟨?_, ?_, ?_, by rw [List.length_append]; simp; omega, fun p hp => ?_, ?_, nl⟩
  · refine (M.B.at fr).keep fun c hc => upd_ne ?_
    rcases hc with rfl | rfl
    · exact Ne.symm nb
    · exact Ne.symm nl
  · obtain ⟨⟨dx, fs, h1, h2⟩, h3⟩ := M.R
    have n1 : r ≠ rl := fun z => by rw [z, hl] at h1; cases h1
    have n2 : d ≠ rl := fun z => by rw [z, hl] at h3; cases h3
    exact ⟨⟨dx, fs, by rw [upd_ne n1, upd_ne (ne_of_none h1 ht)]; exact h1, h2⟩, by rw [upd_ne n2, upd_ne (ne_of_none h3 ht)]; exact h3⟩
  · obtain ⟨ts, h1, h2, h3⟩ := M.A
    rw [hl] at h1
    cases h1
    refine ⟨ts ++ [t], by rw [upd_same, List.map_append]; rfl, by simp [h2], fun i t' y' L' e1 e2 => ?_⟩
    by_cases hi : i < ts.length
    · rw [List.getElem?_append_left hi] at e1
      rw [List.getElem?_append_left (by omega)] at e2
      have z := h3 i t' y' L' e1 e2
      have n1 : t' ≠ rl := fun w => by rw [w, hl] at z; cases z
      rw [upd_ne n1, upd_ne (ne_of_none z ht)]
      exact z
    · rw [List.getElem?_append_right (by omega)] at e1 e2
      have ei : i - ts.length = 0 := by
        have := (List.getElem?_eq_some_iff.mp e1).1
        simp at this
        omega
      have ej : i - rows.length = 0 := by omega
      rw [ei] at e1
      rw [ej] at e2
      cases e1
      cases e2
      rw [upd_ne (Ne.symm nt), upd_same]
  · rcases List.mem_append.mp hp with hp | hp
    · exact fit p hp
    · rw [List.mem_singleton] at hp
      subst hp
      exact fy
  · rw [List.map_append]
    refine List.nodup_append.mpr ⟨nd, by simp, fun a ha c hc => ?_⟩
    rw [List.map_cons, List.map_nil, List.mem_singleton] at hc
    subst hc
    exact fun z => known_mem hk.2.1 (z ▸ ha)
end
theorem int_ok (n : Int) : PyData.canLay0 (.int n) = true := by simp only [PyData.canLay0]
end Law

namespace Law
open PySem PySem.Spec PyProof.Rows L2 Sup
abbrev sRk : Stmt := top 23
abbrev sCl : Stmt := top 24
abbrev sOu : Stmt := top 25
abbrev sDue : Stmt := top 26
abbrev sLaw : Stmt := top 27
def namesL : List Str := ["ash", "fir", "birch", "oak", "elm", "yew", "alder", "pinetreelong"]
def spRk (CR : Addr) : Sp := fun vs H Q _ => ∃ (b l : Addr) (m : Int), vs = [.ref b, .int m] ∧ Box H b l ∧ 0 ≤ m ∧ m ≤ 8 ∧
  ∀ (t r d rl : Addr) (rows : List Row) (H' : Hp), H' t = some (.tup [.ref r, .ref rl]) → Wld CR H' b l r d rl rows → (∀ p ∈ rows, 0 ≤ p.2 ∧ p.2 ≤ 10 ^ 18) → SameB b H H' → Q (.ref t) H'
def spCl (C : Errs) (CR CL : Addr) : Sp := fun vs H Q E => ∃ (r d nl : Addr) (rows : List Row) (ys : List Str), vs = [.ref r, .ref nl] ∧ H nl = some (.lst (ys.map V.str)) ∧ ys.length ≤ 6 ∧ JIn CR rows ys H r d ∧ JOut C CL rows ys H Q E
def jdueV (rows : List Row) (ys : List Str) : List V := match strange rows ys with
  | some y => [.str "UnknownName", .str y]
  | none => match again [] ys with
    | some y => [.str "TakenName", .str y]
    | none => if ys = [] then [.str "BadNumber", .int 0] else match refused (lensOf rows ys) with
      | some v => [.str "BadNumber", .int v]
      | none => [.int (joinLen (lensOf rows ys)), .int ys.length]
def spOu (CR : Addr) : Sp := fun vs H Q _ => ∃ (r d nl : Addr) (rows : List Row) (ys : List Str), vs = [.ref r, .ref nl] ∧ H nl = some (.lst (ys.map V.str)) ∧ ys.length ≤ 6 ∧ JIn CR rows ys H r d ∧
  ∀ (t : Addr) (H' : Hp), Same H H' → H' t = some (.tup (jdueV rows ys)) → Q (.ref t) H'
structure LTxt (mg : Str → Option Value) (CR fT fN fCl : Addr) : Prop where
  rack : mg "Rack" = some (.ref CR)
  take : mg "_law_take" = some (.ref fT)
  num : mg "_law_number" = some (.ref fN)
  call : mg "_law_call" = some (.ref fCl)
  b_len : mg "len" = none
  b_range : mg "range" = none
structure Apart3 (K : PySem.W.Frag) (C : Errs) : Prop where
  tu : PySem.W.exmOne K (.ref C.T) (.ref C.U) = some false
  bu : PySem.W.exmOne K (.ref C.B) (.ref C.U) = some false
  bt : PySem.W.exmOne K (.ref C.B) (.ref C.T) = some false
section
variable {P : Program} {w : World} {K : PySem.W.Frag} {mg : Str → Option Value} {base : Heap} {C : Errs} {CR CL fT fN fCl : Addr}
theorem scRk : FnScope ["_law_box_here", "_law_many", "_law_rack_here", "_law_rows", "_law_names", "_law_turn", "_law_k", "_law_length", "_law_great", "_law_name"] ["_law_box_here", "_law_many"] (defScope sRk) := ⟨rfl, rfl, rfl, by decide +kernel, rfl, by decide +kernel, by decide +kernel⟩
set_option maxHeartbeats 0 in
theorem ok_rk {f fI fP : Addr} {fd fdT : FuncData} (F : Fun K "_law_rack" "_law_rack" sRk f fd) (GT : FnOk P w K mg base CX0 1 fT fdT ["_law_box_here", "_law_size"] spTake) (FT : Fun K "_law_take" "_law_take" sTake fT fdT) (bT : Binds K fdT ["_law_box_here", "_law_size"] [])
    (MR : Mk K CR fI) (G0 : KwX.FnKw P w K mg base (L2.CX P w) 6 fI [] (spRini C CR)) (GP : FnR P w K mg base (L2.CX P w) 5 fP (spPut C CR)) (MP : Meth K CR "put" fP) (cl : Cls K CR) (T : LTxt mg CR fT fN fCl) : FnOk P w K mg base CX0 8 f fd ["_law_box_here", "_law_many"] (spRk CR) := by
  refine F.ok scRk (fun vs H Q E h => ?_) (fun cdv A outer s H vs Q E hr7 h => ?_)
  · obtain ⟨b, l, m, rfl, _⟩ := h
    rfl
  · obtain ⟨b, l, m, rfl, B, m0, m8, k⟩ := h
    have hr1 : Room 1 _ := hr7.mono (by decide)
    have hr5 : Room 5 _ := hr7.mono (by decide)
    refine ⟨_, (pss_cons (ps_set (i := 2) scRk.nd rfl (Or.inl rfl) (KwX.pe_makeW0 (E := fun _ => E0) MR G0 hr7 rfl T.rack (passS passL)))
      (pss_cons (ps_set (i := 3) scRk.nd rfl (Or.inl rfl) (pe_lst pa_nil))
      (pss_cons (ps_set (i := 4) scRk.nd rfl (Or.inl rfl) (pe_lst (pa_cons pe_str (pa_cons pe_str (pa_cons pe_str (pa_cons pe_str (pa_cons pe_str (pa_cons pe_str (pa_cons pe_str (pa_cons pe_str pa_nil))))))))))
      (pss_cons (ps_set (i := 5) scRk.nd rfl (Or.inl rfl) (pe_call GT hr1 rfl T.take FT.kp bT .nil pass0 (pa_cons (pv 0) (pa_cons pe_int pa_nil))))
      (pss_cons (ps_for PassesOwn.never rfl (pi_range1 (by rfl) T.b_range (pa_cons (pe_call GT hr1 rfl T.take FT.kp bT .nil pass0 (pa_cons (pv 0) (pa_cons (pe_op op_add (pv 1) pe_int) pa_nil))) pa_nil)) (pg_name (i := 6) scRk.nd rfl (Or.inl rfl)) (pss_cons (ps_set (i := 7) scRk.nd rfl (Or.inl rfl) (pe_call GT hr1 rfl T.take FT.kp bT .nil pass0 (pa_cons (pv 0) (pa_cons pe_int pa_nil))))
      (pss_cons (ps_set (i := 8) scRk.nd rfl (Or.inl rfl) (pe_call GT hr1 rfl T.take FT.kp bT .nil pass0 (pa_cons (pv 0) (pa_cons (pe_op op_pow pe_int pe_int) pa_nil))))
      (C8.pss_cut (ps_if (pt_cmpR op_eq (pe_call GT hr1 rfl T.take FT.kp bT .nil pass0 (pa_cons (pv 0) (pa_cons pe_int pa_nil))) pe_int (nomark _)) (pss_one (ps_set (i := 7) scRk.nd rfl (Or.inl rfl) (pv 8))) pss_nil)
      (pss_cons (ps_set (i := 9) scRk.nd rfl (Or.inl rfl) (pe_ix ix_list (pv 4) (pe_op op_mod (pe_op op_add (pe_op op_mul (pv 6) pe_int) (pv 5)) pe_int) (fun _ _ => rfl)))
      (pss_cons (ps_expr (Own.pe_methW (E := fun _ => E0) (pv 2) cl MP GP hr5 (passS passL) (pa_cons (pv 9) (pa_cons (pv 7) pa_nil))))
      (pss_one (ps_expr (pe_bm PySem.F.plainAttrs_list PySem.F.slot_list_append PySem.F.type_list_append mt_append (pv 3) (pa_cons (pe_tup (pa_cons (pv 9) (pa_cons (pv 7) pa_nil))) pa_nil))))))))))
      (pss_one (ps_ret (pe_tup (pa_cons (pv 2) (pa_cons (pv 3) pa_nil)))))))))), ?_⟩
    refine mk_rack [] rfl rfl (by decide) (fun _ h => nomatch h) (fun c => absurd c (by decide)) (fun _ acc y L e => by cases e) (fun _ _ r d H1 nr nd nrd S1 R1 => ?_)
    refine ⟨by show 0 ≤ sizeLine; decide, fun rl hrl => ?_⟩
    have B1 := B.same S1
    have hrl0 := none_back S1 hrl
    have W1 : Wld CR (upd H1 rl (.lst [])) b l r d rl [] := ⟨B1.same (same_new hrl), R1.same (same_new hrl), ⟨[], upd_same, rfl, fun i t y L e => by cases e⟩, by decide, (fun _ h => nomatch h), List.nodup_nil, Ne.symm (B1.free hrl).2⟩
    have S2 : Same H (upd H1 rl (.lst [])) := same_tr S1 (same_new hrl)
    generalize upd H1 rl (.lst []) = H2 at W1 S2
    refine ⟨by show 8 ≤ sizeLine; decide, fun nl hnl => ?_⟩
    have W2 := W1.same (same_new (o := .lst (namesL.map V.str)) hnl)
    have S3 : Same H (upd H2 nl (.lst (namesL.map V.str))) := same_tr S2 (same_new hnl)
    have eN : upd H2 nl (.lst (namesL.map V.str)) nl = some (.lst (namesL.map V.str)) := upd_same
    have nb := W1.B.free hnl
    have nrl : rl ≠ nl := by
      obtain ⟨_, z, _⟩ := W1.A.len
      exact ne_of_none z hnl
    refine ⟨_, rfl, b, l, _, rfl, W2.B, by decide, by decide, fun turn H4 t0 t1 B4 k4 => ?_⟩
    have W4 := W2.draw B4 (SameB.of k4)
    have eN4 : H4 nl = some (.lst (namesL.map V.str)) := (k4 nl (Ne.symm nb.1)).trans upd_same
    have S4 : SameB b H H4 := fun c o nc e => (k4 c nc).trans (S3 c o e)
    refine ⟨_, rfl, _, rfl, _, _, rfl, rfl, b, l, _, rfl, B4, by omega, Nat.lt_of_le_of_lt (show (m + 1).natAbs ≤ 60 by omega) (by decide +kernel), fun n H5 n0 n1 B5 k5 => ⟨n, rfl, by omega, by omega, ?_⟩⟩
    have W5 := W4.draw B5 (SameB.of k5)
    have eN5 : H5 nl = some (.lst (namesL.map V.str)) := (k5 nl (Ne.symm nb.1)).trans eN4
    have S5 : SameB b H H5 := S4.trans (SameB.of k5)
    refine for_it (walk_range (lo := 0) (n := n.toNat)) (fun i σ' H' => ∃ (rows : List Row) (v6 v7 v8 v9 : Option V), σ' = [some (.ref b), some (.int m), some (.ref r), some (.ref rl), some (.ref nl), some (.int turn), v6, v7, v8, v9] ∧ Wld CR H' b l r d rl rows ∧ H' nl = some (.lst (namesL.map V.str)) ∧ SameB b H H' ∧
        (∀ p ∈ rows, 0 ≤ p.2 ∧ p.2 ≤ 10 ^ 18) ∧ rows.length = i ∧ ∀ p ∈ rows, ∃ j : Nat, j < i ∧ namesL[(j * 3 + turn.toNat) % 8]? = some p.1)
      ⟨[], _, _, _, _, rfl, W5, eN5, S5, (fun _ h => nomatch h), rfl, fun _ h => nomatch h⟩ (fun _ _ _ _ _ => trivial) ?_ ?_
    · rintro i x σ' H6 H7 hi ⟨rows, v6, v7, v8, v9, rfl, W, eN, S, hL, hlen, hnm⟩ ⟨rfl, rfl⟩
      refine ⟨_, rfl, b, l, _, rfl, W.B, by decide, by decide, fun L H8 a0 a1 B8 k8 => ?_⟩
      refine ⟨_, rfl, _, _, rfl, rfl, pow_ok (by decide), b, l, _, rfl, B8, by decide, by decide +kernel, fun g H9 c0 c1 B9 k9 => ?_⟩
      have c1' : g < 10 ^ 18 := c1
      refine ⟨fun σ'' H'' => ∃ L' : Int, σ'' = [some (.ref b), some (.int m), some (.ref r), some (.ref rl), some (.ref nl), some (.int turn), some (.int (0 + i)), some (.int L'), some (.int g), v9] ∧ 0 ≤ L' ∧ L' ≤ 10 ^ 18 ∧ Wld CR H'' b l r d rl rows ∧ H'' nl = some (.lst (namesL.map V.str)) ∧ SameB b H H'', ?_, ?_⟩
      · refine ⟨_, rfl, b, l, _, rfl, B9, by decide, by decide, fun q H10 _ _ B10 k10 => ⟨rfl, _, rfl, ?_⟩⟩
        have W10 := ((W.draw B8 (SameB.of k8)).draw B9 (SameB.of k9)).draw B10 (SameB.of k10)
        have e10 : H10 nl = some (.lst (namesL.map V.str)) := (k10 nl (Ne.symm nb.1)).trans ((k9 nl (Ne.symm nb.1)).trans ((k8 nl (Ne.symm nb.1)).trans eN))
        have S10 := ((S.trans (SameB.of k8)).trans (SameB.of k9)).trans (SameB.of k10)
        exact ite2 (fun _ => ⟨_, rfl, g, rfl, c0, by omega, W10, e10, S10⟩) (fun _ => ⟨L, rfl, a0, by omega, W10, e10, S10⟩)
      rintro _ H10 ⟨L', rfl, l0, l1, W10, e10, S10⟩
      have hi8 : i < 8 := by omega
      obtain ⟨y, hy⟩ : ∃ y, namesL[(i * 3 + turn.toNat) % 8]? = some y := ⟨_, List.getElem?_eq_getElem (show _ < 8 by omega)⟩
      have hyi : atI (namesL.map V.str) ((((0 : Int) + (i : Int)) * 3 + turn) % 8) = some (.str y) := by
        have z := at_nat (xs := namesL.map V.str) (j := (i * 3 + turn.toNat) % 8) (v := .str y) (by rw [List.getElem?_map, hy]; rfl)
        have e : (((i * 3 + turn.toNat) % 8 : Nat) : Int) = (((0 : Int) + (i : Int)) * 3 + turn) % 8 := by omega
        rw [e] at z
        exact z
      refine ⟨_, rfl, _, rfl, _, _, rfl, rfl, .inr ⟨by decide, by decide⟩, _, rfl, _, _, rfl, rfl, _, _, rfl, rfl, (by show (0 : Int) < 8; decide), nl, _, _, _, rfl, rfl, SqL.of e10, hyi, ?_⟩
      have fy : Fit y := by
        have z : ∀ x ∈ namesL, Fit x := by decide +kernel
        exact z y (List.mem_of_getElem? hy)
      have by_ : badN y = false := by
        have z : ∀ x ∈ namesL, badN x = false := by decide +kernel
        exact z y (List.mem_of_getElem? hy)
      have ky : known rows y = false := by
        refine Bool.eq_false_iff.mpr fun z => ?_
        obtain ⟨p, hp, e⟩ := List.mem_map.mp (List.contains_iff_mem.mp z)
        obtain ⟨j, hj, hj2⟩ := hnm p hp
        rw [e] at hj2
        have inj : ∀ a, a < 8 → ∀ b, b < 8 → namesL[a]? = namesL[b]? → a = b := by decide +kernel
        have := inj _ (by omega) _ (by omega) (hj2.trans hy.symm)
        omega
      have hdue : due rows y L' = .put := by
        unfold due
        rw [if_neg (by rw [by_]; decide), if_neg (by rw [ky]; decide), if_neg (by omega), if_neg (by omega)]
      obtain ⟨⟨dx, fs, w1, w2, w3⟩, w4⟩ := id W10.R
      refine ⟨_, rfl, r, dx, fs, rfl, w1, w3 _ (by decide), _, rfl, _, rfl, r, d, rows, y, L', rfl, W10.R, by omega, fy, Nat.lt_of_le_of_lt (show L'.natAbs ≤ 10 ^ 18 by omega) (by decide +kernel), ⟨fun z => (by rw [hdue] at z; cases z), fun z => (by rw [hdue] at z; cases z), fun z => (by rw [hdue] at z; cases z), fun z => (by rw [hdue] at z; cases z)⟩, fun _ => ?_⟩
      have M := W10.put (y := y) (L := L') same_rfl
      have nd1 := W10.B.neD w4
      have ndn : nl ≠ d := fun z => by rw [z, w4] at e10; cases e10
      have eN' : upd H10 d (.dK (kvs (rows ++ [(y, L')]))) nl = some (.lst (namesL.map V.str)) := by rw [upd_ne ndn]; exact e10
      have Sx : SameB b H (upd H10 d (.dK (kvs (rows ++ [(y, L')])))) := fun c o nc e => by
        rw [upd_ne (ne_of_none e nd)]
        exact S10 c o nc e
      generalize upd H10 d (.dK (kvs (rows ++ [(y, L')]))) = H11 at M eN' Sx
      obtain ⟨xs, hxs, hxl⟩ := M.A.len
      refine ⟨_, rfl, .inl ⟨rfl, _, SqL.of hxs⟩, _, rfl, _, rfl, by show 2 ≤ sizeLine; decide, fun t ht => ?_⟩
      refine ⟨rl, xs, _, rfl, rfl, by rw [upd_ne (ne_of_none hxs ht)]; exact hxs, small1000 (by omega), rows ++ [(y, L')], _, _, _, _, rfl, M.push W10.fit W10.nd W10.nl hdue fy ht hxs, ?_, fun c o nc e => ?_, fun p hp => ?_, by rw [List.length_append, hlen]; rfl, fun p hp => ?_⟩
      · rw [upd_ne (Ne.symm nrl), upd_ne (ne_of_none eN' ht)]
        exact eN'
      · rw [upd_ne (ne_of_none e hrl0), upd_ne (ne_of_none (Sx c o nc e) ht)]
        exact Sx c o nc e
      · rcases List.mem_append.mp hp with hp | hp
        · exact hL p hp
        · rw [List.mem_singleton] at hp
          subst hp
          exact ⟨l0, l1⟩
      · rcases List.mem_append.mp hp with hp | hp
        · obtain ⟨j, hj, e⟩ := hnm p hp
          exact ⟨j, by omega, e⟩
        · rw [List.mem_singleton] at hp
          subst hp
          exact ⟨i, by omega, hy⟩
    · rintro σ' H6 ⟨rows, v6, v7, v8, v9, rfl, W, eN, S, hL, hlen, hnm⟩
      refine ⟨_, rfl, _, rfl, by show 2 ≤ sizeLine; decide, fun t ht => ?_⟩
      exact k t r d rl rows _ upd_same (W.same (same_new ht)) hL fun c o nc e => same_new ht _ _ (S c o nc e)
theorem scCl : FnScope ["_law_rack_here", "_law_names"] ["_law_rack_here", "_law_names"] (defScope sCl) := ⟨rfl, rfl, rfl, by decide +kernel, rfl, by decide +kernel, by decide +kernel⟩
set_option maxHeartbeats 0 in
theorem ok_cl {f fJ : Addr} {fd : FuncData} (F : Fun K "_law_call" "_law_call" sCl f fd) (GJn : FnR P w K mg base (L2.CX P w) 7 fJ (spJnd C CR CL)) (MJ : Meth K CR "joined" fJ) (cl : Cls K CR) (T : LTxt mg CR fT fN fCl) : FnOk P w K mg base (L2.CX P w) 8 f fd ["_law_rack_here", "_law_names"] (spCl C CR CL) := by
  refine F.okX scCl (fun vs H Q E h => ?_) (fun cdv A outer s H vs Q E hr h => ?_)
  · obtain ⟨r, d, nl, rows, ys, rfl, _⟩ := h
    rfl
  · obtain ⟨r, d, nl, rows, ys, rfl, hn, h6, J, O⟩ := h
    refine ⟨_, (pss_cons (ps_if (pt_cmpR op_eq (pe_callB call_len_seq (by rfl) T.b_len PySem.boot_len (pa_cons (pv 1) pa_nil)) pe_int (nomark _)) (pss_one (ps_ret (Own.pe_methW0 (E := fun _ => E) (pv 0) cl MJ GJn hr (passS (passes_call (takes_of rfl rfl rfl rfl) fun _ _ _ _ z => z))))) pss_nil)
      (pss_cons (ps_if (pt_cmpR op_eq (pe_callB call_len_seq (by rfl) T.b_len PySem.boot_len (pa_cons (pv 1) pa_nil)) pe_int (nomark _)) (pss_one (ps_ret (Own.pe_methW (E := fun _ => E) (pv 0) cl MJ GJn hr (passS (passes_call (takes_of rfl rfl rfl rfl) fun _ _ _ _ z => z)) (pa_cons (pe_ix ix_list (pv 1) pe_int (fun _ _ => rfl)) pa_nil)))) pss_nil)
      (pss_cons (ps_if (pt_cmpR op_eq (pe_callB call_len_seq (by rfl) T.b_len PySem.boot_len (pa_cons (pv 1) pa_nil)) pe_int (nomark _)) (pss_one (ps_ret (Own.pe_methW (E := fun _ => E) (pv 0) cl MJ GJn hr (passS (passes_call (takes_of rfl rfl rfl rfl) fun _ _ _ _ z => z)) (pa_cons (pe_ix ix_list (pv 1) pe_int (fun _ _ => rfl)) (pa_cons (pe_ix ix_list (pv 1) pe_int (fun _ _ => rfl)) pa_nil))))) pss_nil)
      (pss_cons (ps_if (pt_cmpR op_eq (pe_callB call_len_seq (by rfl) T.b_len PySem.boot_len (pa_cons (pv 1) pa_nil)) pe_int (nomark _)) (pss_one (ps_ret (Own.pe_methW (E := fun _ => E) (pv 0) cl MJ GJn hr (passS (passes_call (takes_of rfl rfl rfl rfl) fun _ _ _ _ z => z)) (pa_cons (pe_ix ix_list (pv 1) pe_int (fun _ _ => rfl)) (pa_cons (pe_ix ix_list (pv 1) pe_int (fun _ _ => rfl)) (pa_cons (pe_ix ix_list (pv 1) pe_int (fun _ _ => rfl)) pa_nil)))))) pss_nil)
      (pss_cons (ps_if (pt_cmpR op_eq (pe_callB call_len_seq (by rfl) T.b_len PySem.boot_len (pa_cons (pv 1) pa_nil)) pe_int (nomark _)) (pss_one (ps_ret (Own.pe_methW (E := fun _ => E) (pv 0) cl MJ GJn hr (passS (passes_call (takes_of rfl rfl rfl rfl) fun _ _ _ _ z => z)) (pa_cons (pe_ix ix_list (pv 1) pe_int (fun _ _ => rfl)) (pa_cons (pe_ix ix_list (pv 1) pe_int (fun _ _ => rfl)) (pa_cons (pe_ix ix_list (pv 1) pe_int (fun _ _ => rfl)) (pa_cons (pe_ix ix_list (pv 1) pe_int (fun _ _ => rfl)) pa_nil))))))) pss_nil)
      (pss_cons (ps_if (pt_cmpR op_eq (pe_callB call_len_seq (by rfl) T.b_len PySem.boot_len (pa_cons (pv 1) pa_nil)) pe_int (nomark _)) (pss_one (ps_ret (Own.pe_methW (E := fun _ => E) (pv 0) cl MJ GJn hr (passS (passes_call (takes_of rfl rfl rfl rfl) fun _ _ _ _ z => z)) (pa_cons (pe_ix ix_list (pv 1) pe_int (fun _ _ => rfl)) (pa_cons (pe_ix ix_list (pv 1) pe_int (fun _ _ => rfl)) (pa_cons (pe_ix ix_list (pv 1) pe_int (fun _ _ => rfl)) (pa_cons (pe_ix ix_list (pv 1) pe_int (fun _ _ => rfl)) (pa_cons (pe_ix ix_list (pv 1) pe_int (fun _ _ => rfl)) pa_nil)))))))) pss_nil)
      (pss_one (ps_ret (Own.pe_methW (E := fun _ => E) (pv 0) cl MJ GJn hr (passS (passes_call (takes_of rfl rfl rfl rfl) fun _ _ _ _ z => z)) (pa_cons (pe_ix ix_list (pv 1) pe_int (fun _ _ => rfl)) (pa_cons (pe_ix ix_list (pv 1) pe_int (fun _ _ => rfl)) (pa_cons (pe_ix ix_list (pv 1) pe_int (fun _ _ => rfl)) (pa_cons (pe_ix ix_list (pv 1) pe_int (fun _ _ => rfl)) (pa_cons (pe_ix ix_list (pv 1) pe_int (fun _ _ => rfl)) (pa_cons (pe_ix ix_list (pv 1) pe_int (fun _ _ => rfl)) pa_nil))))))))))))))), ?_⟩
    obtain ⟨⟨dx, fs, w1, w2, w3⟩, w4⟩ := id J.R
    match ys, h6, hn, J, O with
    | [], _, hn, J, O =>
      refine ⟨_, rfl, nl, _, rfl, .inl (SqL.of hn), rfl, _, rfl, if_t (by simp) ?_⟩
      exact ⟨_, rfl, r, dx, fs, rfl, w1, w3 _ (by decide), r, d, rows, [], rfl, J, O⟩
    | [a], _, hn, J, O =>
      refine ⟨_, rfl, nl, _, rfl, .inl (SqL.of hn), rfl, _, rfl, if_f (by simp) ?_⟩
      refine ⟨_, rfl, nl, _, rfl, .inl (SqL.of hn), rfl, _, rfl, if_t (by simp) ?_⟩
      exact ⟨_, rfl, r, dx, fs, rfl, w1, w3 _ (by decide), _, rfl, nl, _, _, _, rfl, rfl, SqL.of hn, rfl, r, d, rows, [a], rfl, J, O⟩
    | [a, b], _, hn, J, O =>
      refine ⟨_, rfl, nl, _, rfl, .inl (SqL.of hn), rfl, _, rfl, if_f (by simp) ?_⟩
      refine ⟨_, rfl, nl, _, rfl, .inl (SqL.of hn), rfl, _, rfl, if_f (by simp) ?_⟩
      refine ⟨_, rfl, nl, _, rfl, .inl (SqL.of hn), rfl, _, rfl, if_t (by simp) ?_⟩
      exact ⟨_, rfl, r, dx, fs, rfl, w1, w3 _ (by decide), _, rfl, nl, _, _, _, rfl, rfl, SqL.of hn, rfl, _, rfl, nl, _, _, _, rfl, rfl, SqL.of hn, rfl, r, d, rows, [a, b], rfl, J, O⟩
    | [a, b, c], _, hn, J, O =>
      refine ⟨_, rfl, nl, _, rfl, .inl (SqL.of hn), rfl, _, rfl, if_f (by simp) ?_⟩
      refine ⟨_, rfl, nl, _, rfl, .inl (SqL.of hn), rfl, _, rfl, if_f (by simp) ?_⟩
      refine ⟨_, rfl, nl, _, rfl, .inl (SqL.of hn), rfl, _, rfl, if_f (by simp) ?_⟩
      refine ⟨_, rfl, nl, _, rfl, .inl (SqL.of hn), rfl, _, rfl, if_t (by simp) ?_⟩
      exact ⟨_, rfl, r, dx, fs, rfl, w1, w3 _ (by decide), _, rfl, nl, _, _, _, rfl, rfl, SqL.of hn, rfl, _, rfl, nl, _, _, _, rfl, rfl, SqL.of hn, rfl, _, rfl, nl, _, _, _, rfl, rfl, SqL.of hn, rfl, r, d, rows, [a, b, c], rfl, J, O⟩
    | [a, b, c, e], _, hn, J, O =>
      refine ⟨_, rfl, nl, _, rfl, .inl (SqL.of hn), rfl, _, rfl, if_f (by simp) ?_⟩
      refine ⟨_, rfl, nl, _, rfl, .inl (SqL.of hn), rfl, _, rfl, if_f (by simp) ?_⟩
      refine ⟨_, rfl, nl, _, rfl, .inl (SqL.of hn), rfl, _, rfl, if_f (by simp) ?_⟩
      refine ⟨_, rfl, nl, _, rfl, .inl (SqL.of hn), rfl, _, rfl, if_f (by simp) ?_⟩
      refine ⟨_, rfl, nl, _, rfl, .inl (SqL.of hn), rfl, _, rfl, if_t (by simp) ?_⟩
      exact ⟨_, rfl, r, dx, fs, rfl, w1, w3 _ (by decide), _, rfl, nl, _, _, _, rfl, rfl, SqL.of hn, rfl, _, rfl, nl, _, _, _, rfl, rfl, SqL.of hn, rfl, _, rfl, nl, _, _, _, rfl, rfl, SqL.of hn, rfl, _, rfl, nl, _, _, _, rfl, rfl, SqL.of hn, rfl, r, d, rows, [a, b, c, e], rfl, J, O⟩
    | [a, b, c, e, f], _, hn, J, O =>
      refine ⟨_, rfl, nl, _, rfl, .inl (SqL.of hn), rfl, _, rfl, if_f (by simp) ?_⟩
      refine ⟨_, rfl, nl, _, rfl, .inl (SqL.of hn), rfl, _, rfl, if_f (by simp) ?_⟩
      refine ⟨_, rfl, nl, _, rfl, .inl (SqL.of hn), rfl, _, rfl, if_f (by simp) ?_⟩
      refine ⟨_, rfl, nl, _, rfl, .inl (SqL.of hn), rfl, _, rfl, if_f (by simp) ?_⟩
      refine ⟨_, rfl, nl, _, rfl, .inl (SqL.of hn), rfl, _, rfl, if_f (by simp) ?_⟩
      refine ⟨_, rfl, nl, _, rfl, .inl (SqL.of hn), rfl, _, rfl, if_t (by simp) ?_⟩
      exact ⟨_, rfl, r, dx, fs, rfl, w1, w3 _ (by decide), _, rfl, nl, _, _, _, rfl, rfl, SqL.of hn, rfl, _, rfl, nl, _, _, _, rfl, rfl, SqL.of hn, rfl, _, rfl, nl, _, _, _, rfl, rfl, SqL.of hn, rfl, _, rfl, nl, _, _, _, rfl, rfl, SqL.of hn, rfl, _, rfl, nl, _, _, _, rfl, rfl, SqL.of hn, rfl, r, d, rows, [a, b, c, e, f], rfl, J, O⟩
    | [a, b, c, e, f, g], _, hn, J, O =>
      refine ⟨_, rfl, nl, _, rfl, .inl (SqL.of hn), rfl, _, rfl, if_f (by simp) ?_⟩
      refine ⟨_, rfl, nl, _, rfl, .inl (SqL.of hn), rfl, _, rfl, if_f (by simp) ?_⟩
      refine ⟨_, rfl, nl, _, rfl, .inl (SqL.of hn), rfl, _, rfl, if_f (by simp) ?_⟩
      refine ⟨_, rfl, nl, _, rfl, .inl (SqL.of hn), rfl, _, rfl, if_f (by simp) ?_⟩
      refine ⟨_, rfl, nl, _, rfl, .inl (SqL.of hn), rfl, _, rfl, if_f (by simp) ?_⟩
      refine ⟨_, rfl, nl, _, rfl, .inl (SqL.of hn), rfl, _, rfl, if_f (by simp) ?_⟩
      exact ⟨_, rfl, r, dx, fs, rfl, w1, w3 _ (by decide), _, rfl, nl, _, _, _, rfl, rfl, SqL.of hn, rfl, _, rfl, nl, _, _, _, rfl, rfl, SqL.of hn, rfl, _, rfl, nl, _, _, _, rfl, rfl, SqL.of hn, rfl, _, rfl, nl, _, _, _, rfl, rfl, SqL.of hn, rfl, _, rfl, nl, _, _, _, rfl, rfl, SqL.of hn, rfl, _, rfl, nl, _, _, _, rfl, rfl, SqL.of hn, rfl, r, d, rows, [a, b, c, e, f, g], rfl, J, O⟩
theorem scOu : FnScope ["_law_rack_here", "_law_names", "_law_ladder", "e"] ["_law_rack_here", "_law_names"] (defScope sOu) := ⟨rfl, rfl, rfl, by decide +kernel, rfl, by decide +kernel, by decide +kernel⟩
set_option maxHeartbeats 0 in
theorem ok_ou {f : Addr} {fd fdCl fdN : FuncData} (F : Fun K "_law_outcome" "_law_outcome" sOu f fd) (RU : ErrOk P w K mg base "UnknownName" C.U "name" okTxt) (RT : ErrOk P w K mg base "TakenName" C.T "name" okTxt) (RB : ErrOk P w K mg base "BadNumber" C.B "value" okInt)
    (GCl : FnOk P w K mg base (L2.CX P w) 8 fCl fdCl ["_law_rack_here", "_law_names"] (spCl C CR CL)) (FCl : Fun K "_law_call" "_law_call" sCl fCl fdCl) (bCl : Binds K fdCl ["_law_rack_here", "_law_names"] [])
    (GN : FnOk P w K mg base CX0 1 fN fdN ["_law_x"] spNum) (FN : Fun K "_law_number" "_law_number" sNum fN fdN) (bN : Binds K fdN ["_law_x"] []) (cl : Cls K CL) (nL : NoAttr K CL "length") (nP : NoAttr K CL "parts") (U : Apart3 K C) (T : LTxt mg CR fT fN fCl) : FnOk P w K mg base CX0 9 f fd ["_law_rack_here", "_law_names"] (spOu CR) := by
  refine F.ok scOu (fun vs H Q E h => ?_) (fun cdv A outer s H vs Q E hr h => ?_)
  · obtain ⟨r, d, nl, rows, ys, rfl, _⟩ := h
    rfl
  · obtain ⟨r, d, nl, rows, ys, rfl, hn, h6, J, k⟩ := h
    have hr1 : Room 1 _ := hr.mono (by decide)
    refine ⟨_, (pss_cons (TryAs.ps_try_asM (l := [((Value.ref C.U : Value), 3, (fun a cls d => tRet (tTup (tCons (tC (.str "UnknownName")) (tCons (tXf a cls d C.U "name" (tVar 3)) tNil))) : TryAs.Su)), ((Value.ref C.T : Value), 3, (fun a cls d => tRet (tTup (tCons (tC (.str "TakenName")) (tCons (tXf a cls d C.T "name" (tVar 3)) tNil))) : TryAs.Su)), ((Value.ref C.B : Value), 3, (fun a cls d => tRet (tTup (tCons (tC (.str "BadNumber")) (tCons (tXf a cls d C.B "value" (tVar 3)) tNil))) : TryAs.Su))]) (tb := fun W => tAsg (tCallS (spCl C CR CL) (WE W) (tCons (tVar 0) (tCons (tVar 1) tNil))) (gName 2)) (Wout := fun _ _ _ _ => False) rfl rfl scOu.nd takes0
        (fun W pn xe tk _ => pss_one (ps_set (i := 2) scOu.nd rfl (Or.inl rfl) (by exact (pe_callS GCl hr rfl T.call FCl.kp bCl (fun σ => passAt tk σ) (by exact (pa_cons (pv 0) (pa_cons (pv 1) pa_nil)))))))
        (.cons (i := 3) rfl rfl ⟨rfl, by decide, Or.inl RU.g⟩ (fun a oe cls d pn hz hf => pss_one (ps_ret (pe_tup (pa_cons pe_str (by exact (pa_cons (pe_xf RU.xf RU.no hz hf (pv 3)) pa_nil)))))) (.cons (i := 3) rfl rfl ⟨rfl, by decide, Or.inl RT.g⟩ (fun a oe cls d pn hz hf => pss_one (ps_ret (pe_tup (pa_cons pe_str (by exact (pa_cons (pe_xf RT.xf RT.no hz hf (pv 3)) pa_nil)))))) (.cons (i := 3) rfl rfl ⟨rfl, by decide, Or.inl RB.g⟩ (fun a oe cls d pn hz hf => pss_one (ps_ret (pe_tup (pa_cons pe_str (by exact (pa_cons (pe_xf RB.xf RB.no hz hf (pv 3)) pa_nil)))))) .nil))))
      (pss_cons (ps_if (PW.pt (pw_or (pt_not (pt_val (pe_call GN hr1 rfl T.num FN.kp bN .nil pass0 (pa_cons (pe_fld (pv 2) rfl) pa_nil)))) (pw_or1 (pt_not (pt_val (pe_call GN hr1 rfl T.num FN.kp bN .nil pass0 (pa_cons (pe_fld (pv 2) rfl) pa_nil))))))) (pss_one (ps_ret (pe_tup (pa_cons pe_str (pa_cons pe_int pa_nil))))) pss_nil)
      (pss_one (ps_ret (pe_tup (pa_cons (pe_fld (pv 2) rfl) (pa_cons (pe_fld (pv 2) rfl) pa_nil))))))), ?_⟩
    have go : ∀ {d' t : Addr} {H' : Hp} {o o' : HO}, H' d' = none → (upd H' d' o) t = none → Same H' (upd (upd H' d' o) t o') := fun h1 h2 => same_tr (same_new h1) (same_new h2)
    refine ⟨_, rfl, _, rfl, r, d, nl, rows, ys, rfl, hn, h6, J, ⟨fun y e H' d' S hd => ?_, fun y e1 e2 H' d' S hd => ?_, fun e H' d' S hd => ?_, fun v e1 e2 e3 e4 H' d' S hd => ?_, fun e1 e2 e3 e4 x H' hx S hl => ?_⟩⟩
    · refine ⟨true, RU.te, fun _ q ha => ?_, fun z => Bool.noConfusion z⟩
      refine ⟨_, rfl, rfl, rfl, d', _, _, rfl, upd_same, rfl, by show 2 ≤ sizeLine; decide, fun t ht => ?_⟩
      exact k t _ (same_tr S (go hd ht)) (by rw [upd_same]; unfold jdueV; rw [e])
    · refine ⟨false, U.tu, fun z => Bool.noConfusion z, fun _ => ⟨true, RT.te, fun _ q ha => ?_, fun z => Bool.noConfusion z⟩⟩
      refine ⟨_, rfl, rfl, rfl, d', _, _, rfl, upd_same, rfl, by show 2 ≤ sizeLine; decide, fun t ht => ?_⟩
      exact k t _ (same_tr S (go hd ht)) (by rw [upd_same]; unfold jdueV; rw [e1, e2])
    · refine ⟨false, U.bu, fun z => Bool.noConfusion z, fun _ => ⟨false, U.bt, fun z => Bool.noConfusion z, fun _ => ⟨true, RB.te, fun _ q ha => ?_, fun z => Bool.noConfusion z⟩⟩⟩
      refine ⟨_, rfl, rfl, rfl, d', _, _, rfl, upd_same, rfl, by show 2 ≤ sizeLine; decide, fun t ht => ?_⟩
      exact k t _ (same_tr S (go hd ht)) (by rw [upd_same, e]; rfl)
    · refine ⟨false, U.bu, fun z => Bool.noConfusion z, fun _ => ⟨false, U.bt, fun z => Bool.noConfusion z, fun _ => ⟨true, RB.te, fun _ q ha => ?_, fun z => Bool.noConfusion z⟩⟩⟩
      refine ⟨_, rfl, rfl, rfl, d', _, _, rfl, upd_same, rfl, by show 2 ≤ sizeLine; decide, fun t ht => ?_⟩
      exact k t _ (same_tr S (go hd ht)) (by rw [upd_same]; unfold jdueV; rw [e1, e2]; dsimp only; rw [if_neg e3, e4])
    · obtain ⟨dx, fs, h1, l1, l2⟩ := id hl
      refine ⟨_, rfl, x, CL, dx, fs, _, rfl, h1, cl, nL, l1, _, rfl, true, rfl, if_f rfl ?_⟩
      refine ⟨_, rfl, x, CL, dx, fs, _, rfl, h1, cl, nP, l2, _, rfl, true, rfl, if_f rfl ?_⟩
      refine ⟨_, rfl, x, CL, dx, fs, _, rfl, h1, cl, nL, l1, _, rfl, x, CL, dx, fs, _, rfl, h1, cl, nP, l2, by show 2 ≤ sizeLine; decide, fun t ht => ?_⟩
      exact k t _ (same_tr S (same_new ht)) (by rw [upd_same]; unfold jdueV; rw [e1, e2]; dsimp only; rw [if_neg e3, e4])
end
end Law

namespace Law
open PySem PySem.Spec PyProof.Rows L2 Sup
theorem seq_asg {te : TE} {g : TG} {t2 : TS} {D : Ends} {σ : L2.St} {H : Hp} (h : te σ H fun x H1 => g x σ H1 fun σ' H' => t2 D σ' H') : tSeq (tAsg te g) t2 D σ H := h
theorem call_lenK (K : PySem.W.Frag) {X : Cx} (h : X.K = K) : CallR X (.builtin "len") (fun xs H Q => ∃ p ys, xs = [.ref p] ∧ (SqL K H p ys ∨ SqT K H p ys) ∧ Q (.int ys.length) H) := h ▸ call_len_seq
/-- all the names that occur again -/
def agl : List Str → List Str → List Str
  | _, [] => []
  | seen, y :: r => (if seen.contains y = true then [y] else []) ++ agl (seen ++ [y]) r
theorem agl_cons (seen : List Str) (y : Str) (r : List Str) : agl seen (y :: r) = (if seen.contains y = true then [y] else []) ++ agl (seen ++ [y]) r := rfl
theorem again_agl : ∀ (seen r : List Str), again seen r = (agl seen r).head?
  | _, [] => rfl
  | seen, y :: r => by
    have ih := again_agl (seen ++ [y]) r
    unfold again agl
    by_cases c : seen.contains y = true
    · rw [if_pos c, if_pos c]
      rfl
    · rw [if_neg c, if_neg c, ih]
      rfl
theorem agl_fm : ∀ (r seen : List Str), ((List.range r.length).filterMap fun i => r[i]?.bind fun y => if (seen ++ r.take i).contains y = true then some y else none) = agl seen r
  | [], _ => rfl
  | y :: r, seen => by
    have ih := agl_fm r (seen ++ [y])
    rw [List.length_cons, List.range_succ_eq_map, List.filterMap_cons, List.filterMap_map]
    have e : ((fun i => (y :: r)[i]?.bind fun z => if (seen ++ (y :: r).take i).contains z = true then some z else none) ∘ Nat.succ) = fun i => r[i]?.bind fun z => if ((seen ++ [y]) ++ r.take i).contains z = true then some z else none := by
      funext i
      show (y :: r)[i + 1]?.bind _ = _
      rw [List.getElem?_cons_succ]
      congr 1
      funext z
      rw [show (y :: r).take (Nat.succ i) = y :: r.take i from rfl, List.append_assoc]
      rfl
    rw [e, ih, agl_cons]
    simp only [List.getElem?_cons_zero, Option.bind_some, List.take_zero, List.append_nil]
    by_cases c : seen.contains y = true
    · rw [if_pos c, if_pos c]
      rfl
    · rw [if_neg c, if_neg c]
      rfl
theorem look_idx {y : Str} : ∀ {rows : List Row}, known rows y = true → ∃ (j : Nat) (L : Int), rows[j]? = some (y, L) ∧ rows.lookup y = some L ∧ ∀ (m : Nat) (p : Row), m < j → rows[m]? = some p → p.1 ≠ y
  | [], h => by cases h
  | (x, M) :: r, h => by
    by_cases e : x = y
    · subst e
      exact ⟨0, M, rfl, by simp [List.lookup], fun m p hm => absurd hm (by omega)⟩
    · have q : (y == x) = false := by simpa using fun z => e z.symm
      have h' : known r y = true := by
        unfold known at h ⊢
        rw [List.map_cons, List.contains_cons, q, Bool.false_or] at h
        exact h
      obtain ⟨j, L, h1, h2, h3⟩ := look_idx h'
      refine ⟨j + 1, L, h1, by rw [List.lookup, q]; exact h2, fun m p hm hp => ?_⟩
      cases m with
      | zero =>
        cases hp
        exact e
      | succ m => exact h3 m p (by omega) hp
theorem cutV_take (xs : List V) (i : Nat) : cutV xs none (some (i : Int)) = xs.take i := by
  unfold cutV
  have e0 : HT.sIx xs.length 0 none = 0 := rfl
  rw [e0, HT.sIx_nat, List.drop_zero, Nat.sub_zero]
  by_cases h : i ≤ xs.length
  · rw [Nat.min_eq_left h]
  · rw [Nat.min_eq_right (by omega), List.take_of_length_le (Nat.le_refl _), List.take_of_length_le (by omega)]
theorem fm_filter {α β : Type} (p : α → Bool) (f : α → β) (xs : List α) : (xs.filterMap fun c => if p c = true then none else some (f c)) = (xs.filter fun c => !p c).map f := by
  induction xs with
  | nil => rfl
  | cons x xs ih =>
    rw [List.filterMap_cons, List.filter_cons, ih]
    cases h : p x <;> simp
theorem fm_filterT {α β : Type} (p : α → Bool) (f : α → β) (xs : List α) : (xs.filterMap fun c => if p c = true then some (f c) else none) = (xs.filter p).map f := by
  induction xs with
  | nil => rfl
  | cons x xs ih =>
    rw [List.filterMap_cons, List.filter_cons, ih]
    cases h : p x <;> simp
theorem refused_filter {ls : List Int} (h : ∀ x ∈ ls, 0 ≤ x) : refused ls = (ls.filter fun x => decide (1 < (ls.length : Int)) && decide (x ≤ 1)).head? := by
  unfold refused
  rw [← List.head?_filter]
  congr 1
  refine List.filter_congr fun x hx => ?_
  have := h x hx
  unfold lst
  by_cases c : 1 < ls.length
  · rw [if_pos c, decide_eq_true (show (1 : Int) < (ls.length : Int) by omega), Bool.true_and]
    exact decide_eq_decide.mpr (by omega)
  · rw [if_neg c, decide_eq_false (show ¬ (1 : Int) < (ls.length : Int) by omega), Bool.false_and]
    exact decide_eq_false (by omega)
def spDue : Sp := fun vs H Q _ => ∃ (rl nl : Addr) (rows : List Row) (ys : List Str), vs = [.ref rl, .ref nl] ∧ RowsAt H rl rows ∧ rows.length ≤ 60 ∧ (∀ p ∈ rows, Fit p.1 ∧ 0 ≤ p.2) ∧ H nl = some (.lst (ys.map V.str)) ∧ ys.length ≤ 60 ∧ (∀ y ∈ ys, Fit y) ∧
  ∀ (t : Addr) (H' : Hp), Same H H' → H' t = some (.tup (jdueV rows ys)) → Q (.ref t) H'
structure DTxt (mg : Str → Option Value) : Prop where
  b_len : mg "len" = none
  b_range : mg "range" = none
  b_sum : mg "sum" = none
section
variable {P : Program} {w : World} {K : PySem.W.Frag} {mg : Str → Option Value} {base : Heap}
theorem scDue : FnScope ["_law_rows", "_law_names", "_law_known", "_law_strange", "_law_again", "_law_lengths", "_law_short", "_law_row", "_law_name", "_law_k", "_law_length"] ["_law_rows", "_law_names"] (defScope sDue) := ⟨rfl, rfl, rfl, by decide +kernel, rfl, by decide +kernel, by decide +kernel⟩
set_option maxHeartbeats 0 in
theorem ok_due {f : Addr} {fd : FuncData} (F : Fun K "_law_due" "_law_due" sDue f fd) (T : DTxt mg) : FnOk P w K mg base CX0 1 f fd ["_law_rows", "_law_names"] spDue := by
  refine F.ok scDue (fun vs H Q E h => ?_) (fun cdv A outer s H vs Q E hr h => ?_)
  · obtain ⟨rl, nl, rows, ys, rfl, _⟩ := h
    rfl
  · obtain ⟨rl, nl, rows, ys, rfl, R, h60, hF, hn, y60, hY, k⟩ := h
    refine ⟨_, (pss_cons (ps_set (i := 2) scDue.nd rfl (Or.inr rfl) (pe_lc (own := [("_law_row", 7)]) (g := gName 7) (tt := tYes) (by rfl) scDue.nd (pi_list (pv 0)) (blkOk_by (own := [("_law_row", 7)]) (N := ["_law_rows", "_law_names", "_law_known", "_law_strange", "_law_again", "_law_lengths", "_law_short", "_law_row", "_law_name", "_law_k", "_law_length"]) (sc := defScope sDue) (by decide +kernel)) (fun _ _ _ _ _ => pg_name (i := 7) scDue.nd rfl (Or.inl rfl)) (fun _ _ _ _ _ => pts_nil) (fun _ _ _ _ _ => (pe_ix (r := rIxT K) ix_tup (pv 7) pe_int (fun _ _ => rfl)))))
      (pss_cons (ps_setLc (i := 3) (own := [("_law_name", 8)]) (g := gName 8) (by rfl) scDue.nd rfl rfl (sw_true rfl rfl rfl (by decide +kernel)) (pi_list (pv 1)) (blkOk_by (own := [("_law_name", 8)]) (N := ["_law_rows", "_law_names", "_law_known", "_law_strange", "_law_again", "_law_lengths", "_law_short", "_law_row", "_law_name", "_law_k", "_law_length"]) (sc := defScope sDue) (by decide +kernel)) (fun _ _ _ _ _ => pg_name (i := 8) scDue.nd rfl (Or.inl rfl)) (fun _ _ _ _ _ => (pts_one (pt_cmpR (r := rNotInD K) (op_notInD (Room.u65 hr)) (pv 8) (pv 2) rfl))) (fun _ _ _ _ _ => (pv 8)))
      (pss_cons (ps_if (pt_cmpR op_gt (pe_callB call_len_seq (by rfl) T.b_len PySem.boot_len (pa_cons (pv 3) pa_nil)) pe_int (nomark _)) (pss_one (ps_ret (pe_tup (pa_cons pe_str (pa_cons (pe_ix ix_list (pv 3) pe_int (fun _ _ => rfl)) pa_nil))))) pss_nil)
      (pss_cons (ps_setLc (i := 4) (own := [("_law_k", 9)]) (g := gName 9) (by rfl) scDue.nd rfl rfl (sw_true rfl rfl rfl (by decide +kernel)) (pi_range1 (by rfl) T.b_range (pa_cons (pe_callB call_len_seq (by rfl) T.b_len PySem.boot_len (pa_cons (pv 1) pa_nil)) pa_nil)) (blkOk_by (own := [("_law_k", 9)]) (N := ["_law_rows", "_law_names", "_law_known", "_law_strange", "_law_again", "_law_lengths", "_law_short", "_law_row", "_law_name", "_law_k", "_law_length"]) (sc := defScope sDue) (by decide +kernel)) (fun _ _ _ _ _ => pg_name (i := 9) scDue.nd rfl (Or.inl rfl)) (fun _ _ _ _ _ => (pts_one (pt_cmpR (r := rInD K) (op_inD (Room.u65 hr)) (pe_ix (r := rIxL K) ix_list (pv 1) (pv 9) (fun _ _ => rfl)) (pe_slice (r := rSlL K) sl_list (pv 1) po_none (po_some (pv 9))) rfl))) (fun _ _ _ _ _ => (pe_ix (r := rIxL K) ix_list (pv 1) (pv 9) (fun _ _ => rfl))))
      (pss_cons (ps_if (pt_cmpR op_gt (pe_callB call_len_seq (by rfl) T.b_len PySem.boot_len (pa_cons (pv 4) pa_nil)) pe_int (nomark _)) (pss_one (ps_ret (pe_tup (pa_cons pe_str (pa_cons (pe_ix ix_list (pv 4) pe_int (fun _ _ => rfl)) pa_nil))))) pss_nil)
      (pss_cons (ps_if (pt_cmpR op_eq (pe_callB call_len_seq (by rfl) T.b_len PySem.boot_len (pa_cons (pv 1) pa_nil)) pe_int (nomark _)) (pss_one (ps_ret (pe_tup (pa_cons pe_str (pa_cons pe_int pa_nil))))) pss_nil)
      (pss_cons (ps_set (i := 5) scDue.nd rfl (Or.inr rfl) (pe_lc (own := [("_law_name", 8)]) (g := gName 8) (tt := tYes) (te := tOp (rIxT K) (tOp (rIxL K) (tVar 0) (tBM K "list" (rIndexD K) (tVar 2) (tCons (tVar 8) tNil))) (tC (.int 1))) (by rfl) scDue.nd (pi_list (pv 1)) (blkOk_by (own := [("_law_name", 8)]) (N := ["_law_rows", "_law_names", "_law_known", "_law_strange", "_law_again", "_law_lengths", "_law_short", "_law_row", "_law_name", "_law_k", "_law_length"]) (sc := defScope sDue) (by decide +kernel)) (fun _ _ _ _ _ => pg_name (i := 8) scDue.nd rfl (Or.inl rfl)) (fun _ _ _ _ _ => pts_nil) (fun _ _ _ _ _ => (by exact (pe_ix (r := rIxT K) ix_tup (pe_ix (r := rIxL K) ix_list (pv 0) (pe_bm PySem.F.plainAttrs_list PySem.F.slot_list_index PySem.F.type_list_index (mt_indexD (Room.u65 hr)) (pv 2) (pa_cons (pv 8) pa_nil)) (fun _ _ => rfl)) pe_int (fun _ _ => rfl))))))
      (pss_cons (ps_setLc (i := 6) (own := [("_law_length", 10)]) (g := gName 10) (by rfl) scDue.nd rfl rfl (sw_true rfl rfl rfl (by decide +kernel)) (pi_list (pv 5)) (blkOk_by (own := [("_law_length", 10)]) (N := ["_law_rows", "_law_names", "_law_known", "_law_strange", "_law_again", "_law_lengths", "_law_short", "_law_row", "_law_name", "_law_k", "_law_length"]) (sc := defScope sDue) (by decide +kernel)) (fun _ _ _ _ _ => pg_name (i := 10) scDue.nd rfl (Or.inl rfl)) (fun _ _ _ _ _ => (pts_one (PW.pt (pw_and (pt_cmpR op_gt (pe_callB (call_lenK K rfl) (by rfl) T.b_len PySem.boot_len (pa_cons (pv 5) pa_nil)) pe_int (nomark _)) (pw_and1 (pt_cmpR op_le (pv 10) pe_int (nomark _))))))) (fun _ _ _ _ _ => (pv 10)))
      (pss_cons (ps_if (pt_cmpR op_gt (pe_callB call_len_seq (by rfl) T.b_len PySem.boot_len (pa_cons (pv 6) pa_nil)) pe_int (nomark _)) (pss_one (ps_ret (pe_tup (pa_cons pe_str (pa_cons (pe_ix ix_list (pv 6) pe_int (fun _ _ => rfl)) pa_nil))))) pss_nil)
      (pss_one (ps_ret (pe_tup (pa_cons (pe_op op_add (pe_op op_sub (pe_callB (cr_sum rfl) (by rfl) T.b_sum (by decide +kernel) (pa_cons (pv 5) pa_nil)) (pe_callB call_len_seq (by rfl) T.b_len PySem.boot_len (pa_cons (pv 5) pa_nil))) pe_int) (pa_cons (pe_callB call_len_seq (by rfl) T.b_len PySem.boot_len (pa_cons (pv 1) pa_nil)) pa_nil)))))))))))))), ?_⟩
    have shp : SeqAt.shaped (.list ((rows.map (·.1)).map PyData.str)) = true := shaped_strs fun n hn => by
      obtain ⟨p, hp, rfl⟩ := List.mem_map.mp hn
      exact (hF p hp).1.2
    -- known
    refine seq_asg ?_
    refine r_names rfl (by decide) (by show 7 < 11; decide) R (by omega) fun D1 H1 _ g1 s1 => ?_
    have hn1 := s1 _ _ hn
    -- strange
    refine ⟨_, rfl, nl, rfl, ⟨_, SqL.of hn1⟩, fun D2 hD2 => ?_⟩
    refine lc_it (walk_list (xs := ys.map V.str)) (LcP D2 H1 fun i => ys[i]?.bind fun y => if known rows y = true then none else some (V.str y)) (LcP.start hD2) (fun _ _ _ h => SqL.of (h.2 _ _ hn1)) ?_ ?_
    · rintro i x H3 H4 hi p ⟨rfl, hx⟩
      rw [List.length_map] at hi
      obtain ⟨y, hy⟩ : ∃ y, ys[i]? = some y := ⟨_, List.getElem?_eq_getElem hi⟩
      rw [List.getElem?_map, hy] at hx
      cases hx
      refine ⟨rfl, _, rfl, _, rfl, .str y, (rows.map (·.1)).map PyData.str, .str y, .lst (SqL.of (p.2 _ _ g1)) (dp_strs _), shaped_str (hY y (List.mem_of_getElem? hy)).2, shp, _, rfl, ?_⟩
      rw [any_strs]
      by_cases c : known rows y = true
      · exact if_f (by rw [show (rows.map (·.1)).contains y = true from c]; rfl) (p.skip same_rfl (by rw [hy]; simp [c]))
      · have cf : known rows y = false := Bool.eq_false_iff.mpr c
        exact if_t (by rw [show (rows.map (·.1)).contains y = false from cf]; rfl) ⟨_, rfl, p.push hD2 same_rfl (by rw [hy]; simp [cf]) (by omega)⟩
    rintro H2 ⟨g2, s2⟩
    rw [List.length_map, range_fm, fm_filter] at g2
    have S2 := same_tr s1 s2
    refine ⟨_, rfl, D2, _, rfl, .inl (SqL.of g2), _, _, rfl, rfl, _, rfl, ?_⟩
    rw [List.length_map]
    have est : strange rows ys = (ys.filter fun y => !known rows y).head? := by
      unfold strange
      rw [← List.head?_filter]
    cases hf : ys.filter fun y => !known rows y with
    | cons y0 rest =>
      rw [hf] at g2 est
      refine if_t (decide_eq_true (by simp)) ?_
      refine ⟨_, rfl, D2, _, 0, _, rfl, rfl, SqL.of g2, at_of (j := 0) rfl rfl, by show 2 ≤ sizeLine; decide, fun t ht => ?_⟩
      refine k t _ (same_tr S2 (same_new ht)) ?_
      rw [upd_same]
      unfold jdueV
      rw [est]
      rfl
    | nil =>
    rw [hf] at est
    have est : strange rows ys = none := est
    refine if_f (by rfl) ?_
    clear hf g2
    have hk : ∀ y ∈ ys, known rows y = true := fun y hy => by
      have z := List.find?_eq_none.mp est y hy
      simpa using z
    have hn2 := s2 _ _ hn1
    -- again
    refine ⟨_, rfl, nl, _, rfl, .inl (SqL.of hn2), _, rfl, by omega, by rw [List.length_map]; omega, fun D3 hD3 => ?_⟩
    rw [List.length_map]
    refine lc_it (walk_range (lo := 0) (n := ys.length)) (LcP D3 H2 fun i => ys[i]?.bind fun y => if (([] : List Str) ++ ys.take i).contains y = true then some (V.str y) else none) (LcP.start hD3) (fun _ _ _ _ => trivial) ?_ ?_
    · rintro i x H3 H4 hi p ⟨rfl, rfl⟩
      obtain ⟨y, hy⟩ : ∃ y, ys[i]? = some y := ⟨_, List.getElem?_eq_getElem hi⟩
      have ey : atI (ys.map V.str) ((0 : Int) + (i : Int)) = some (V.str y) := by
        rw [Int.zero_add]
        exact at_nat (by rw [List.getElem?_map, hy]; rfl)
      have hn4 := p.2 _ _ hn2
      refine ⟨rfl, _, rfl, _, rfl, nl, _, _, _, rfl, rfl, SqL.of hn4, ey, _, rfl, _, rfl, _, rfl, nl, _, rfl, SqL.of hn4, fun q hq => ?_⟩
      rw [Int.zero_add, cutV_take, ← List.map_take]
      have sq := same_new (o := .lst ((ys.take i).map V.str)) hq
      refine ⟨.str y, (ys.take i).map PyData.str, .str y, .lst (SqL.of upd_same) (dp_strs _), shaped_str (hY y (List.mem_of_getElem? hy)).2, shaped_strs (fun n hn => (hY n (List.mem_of_mem_take hn)).2), _, rfl, ?_⟩
      rw [any_strs]
      by_cases c : (ys.take i).contains y = true
      · refine if_t c ⟨_, rfl, _, rfl, nl, _, _, _, rfl, rfl, SqL.of (sq _ _ hn4), ?_, p.push hD3 sq (by rw [hy, List.nil_append]; simp only [Option.bind_some]; rw [if_pos c]) (by omega)⟩
        exact ey
      · exact if_f (Bool.eq_false_iff.mpr c) (p.skip sq (by rw [hy, List.nil_append]; simp only [Option.bind_some]; rw [if_neg c]))
    rintro H3 ⟨g3, s3⟩
    have S3 := same_tr S2 s3
    have e3 : ((List.range ys.length).filterMap fun i => ys[i]?.bind fun y => if (([] : List Str) ++ ys.take i).contains y = true then some (V.str y) else none) = (agl [] ys).map V.str := by
      rw [← agl_fm, List.map_filterMap]
      congr 1
      funext i
      cases ys[i]? with
      | none => rfl
      | some y =>
        simp only [Option.bind_some]
        split <;> rfl
    rw [e3] at g3
    have eag := again_agl [] ys
    refine ⟨_, rfl, D3, _, rfl, .inl (SqL.of g3), _, _, rfl, rfl, _, rfl, ?_⟩
    rw [List.length_map]
    cases hf : agl [] ys with
    | cons y0 rest =>
      rw [hf] at g3 eag
      refine if_t (decide_eq_true (by simp)) ?_
      refine ⟨_, rfl, D3, _, 0, _, rfl, rfl, SqL.of g3, at_of (j := 0) rfl rfl, by show 2 ≤ sizeLine; decide, fun t ht => ?_⟩
      refine k t _ (same_tr S3 (same_new ht)) ?_
      rw [upd_same]
      unfold jdueV
      rw [est, eag]
      rfl
    | nil =>
    rw [hf] at eag
    have eag : again [] ys = none := eag
    refine if_f (by rfl) ?_
    clear hf g3 e3
    have hn3 := s3 _ _ hn2
    refine ⟨_, rfl, nl, _, rfl, .inl (SqL.of hn3), rfl, _, rfl, ?_⟩
    rw [List.length_map]
    by_cases e0 : ys = []
    · subst e0
      refine if_t (by simp) ⟨by show 2 ≤ sizeLine; decide, fun t ht => ?_⟩
      exact k t _ (same_tr S3 (same_new ht)) (by rw [upd_same]; rfl)
    refine if_f (decide_eq_false fun z => e0 (List.length_eq_zero_iff.mp (by have := V.int.inj z; omega))) ?_
    -- lengths
    obtain ⟨ts, hl, hts, hrow⟩ := R.same S3
    refine ⟨_, rfl, nl, rfl, ⟨_, SqL.of hn3⟩, fun D4 hD4 => ?_⟩
    refine lc_it (walk_list (xs := ys.map V.str)) (LcP D4 H3 fun i => ys[i]?.bind fun y => (rows.lookup y).map V.int) (LcP.start hD4) (fun _ _ _ h => SqL.of (h.2 _ _ hn3)) ?_ ?_
    · rintro i x H4 H5 hi p ⟨rfl, hx⟩
      rw [List.length_map] at hi
      obtain ⟨y, hy⟩ : ∃ y, ys[i]? = some y := ⟨_, List.getElem?_eq_getElem hi⟩
      rw [List.getElem?_map, hy] at hx
      cases hx
      obtain ⟨j, L, j1, j2, j3⟩ := look_idx (hk y (List.mem_of_getElem? hy))
      have hj : j < rows.length := (List.getElem?_eq_some_iff.mp j1).1
      have htj : ts[j]? = some ts[j] := List.getElem?_eq_getElem (by omega)
      have g14 := p.2 _ _ (s3 _ _ (s2 _ _ g1))
      refine ⟨rfl, _, rfl, _, rfl, .inl ⟨rfl, _, SqL.of g14⟩, _, rfl, D1, .str y, .str y, (rows.map (·.1)).map PyData.str, j, .str y, rfl, rfl, .lst (SqL.of g14) (dp_strs _), .str y, shp, shaped_str (hY y (List.mem_of_getElem? hy)).2, by rw [List.getElem?_map, List.getElem?_map, j1]; rfl, eqv_rfl (shaped_str (hY y (List.mem_of_getElem? hy)).2), fun m z hm hz => ?_, ?_⟩
      · rw [List.getElem?_map, List.getElem?_map] at hz
        cases e : rows[m]? with
        | none =>
          rw [e] at hz
          cases hz
        | some pr =>
          rw [e] at hz
          cases hz
          have ne := j3 m pr hm e
          simp only [PyData.eqv]
          exact beq_eq_false_iff_ne.mpr ne
      · exact ⟨rl, _, _, _, rfl, rfl, SqL.of (p.2 _ _ hl), at_nat (by rw [List.getElem?_map, htj]; rfl), _, _, _, _, rfl, rfl, SqT.of (p.2 _ _ (hrow j _ y L htj j1)), rfl, p.push hD4 same_rfl (by rw [hy]; simp [j2]) (by omega)⟩
    rintro H4 ⟨g4, s4⟩
    rw [List.length_map, range_fm] at g4
    have el : ys.filterMap (fun y => (rows.lookup y).map V.int) = (lensOf rows ys).map V.int := by
      unfold lensOf
      rw [List.map_filterMap]
    rw [el] at g4
    have S4 := same_tr S3 s4
    have hpos : ∀ x ∈ lensOf rows ys, 0 ≤ x := fun x hx => by
      obtain ⟨y, hy, e⟩ := List.mem_filterMap.mp hx
      obtain ⟨j, L, j1, j2, _⟩ := look_idx (hk y hy)
      rw [j2] at e
      cases e
      exact (hF _ (List.mem_of_getElem? j1)).2
    have hlen : (lensOf rows ys).length = ys.length := by
      have key : ∀ l : List Str, (∀ y ∈ l, known rows y = true) → (lensOf rows l).length = l.length := fun l => by
        induction l with
        | nil => intro _; rfl
        | cons y l ih =>
          intro h
          obtain ⟨j, L, _, j2, _⟩ := look_idx (h y List.mem_cons_self)
          have z := ih fun x hx => h x (List.mem_cons_of_mem _ hx)
          unfold lensOf at z ⊢
          rw [List.filterMap_cons, j2, List.length_cons, List.length_cons, z]
      exact key ys hk
    have l60 : (lensOf rows ys).length ≤ 60 := by omega
    have erf := refused_filter hpos
    generalize hls : lensOf rows ys = ls at g4 hpos hlen l60 erf
    -- short
    refine ⟨_, rfl, D4, rfl, ⟨_, SqL.of g4⟩, fun D5 hD5 => ?_⟩
    refine lc_it (walk_list (xs := ls.map V.int)) (LcP D5 H4 fun i => ls[i]?.bind fun x => if (decide (1 < (ls.length : Int)) && decide (x ≤ 1)) = true then some (V.int x) else none) (LcP.start hD5) (fun _ _ _ h => SqL.of (h.2 _ _ g4)) ?_ ?_
    · rintro i x H5 H6 hi p ⟨rfl, hx⟩
      rw [List.length_map] at hi
      obtain ⟨y, hy⟩ : ∃ y, ls[i]? = some y := ⟨_, List.getElem?_eq_getElem hi⟩
      rw [List.getElem?_map, hy] at hx
      cases hx
      refine ⟨rfl, _, rfl, D4, _, rfl, .inl (SqL.of (p.2 _ _ g4)), _, _, rfl, rfl, _, rfl, ?_⟩
      rw [List.length_map]
      by_cases c1 : (1 : Int) < (ls.length : Int)
      · refine if_t (decide_eq_true c1) ⟨_, rfl, _, _, rfl, rfl, _, rfl, ?_⟩
        by_cases c2 : y ≤ 1
        · exact if_t (decide_eq_true c2) ⟨_, rfl, p.push hD5 same_rfl (by rw [hy]; simp only [Option.bind_some]; rw [decide_eq_true c1, decide_eq_true c2]; rfl) (by omega)⟩
        · exact if_f (decide_eq_false c2) (p.skip same_rfl (by rw [hy]; simp only [Option.bind_some]; rw [decide_eq_false c2, Bool.and_false]; rfl))
      · exact if_f (decide_eq_false c1) (p.skip same_rfl (by rw [hy]; simp only [Option.bind_some]; rw [decide_eq_false c1, Bool.false_and]; rfl))
    rintro H5 ⟨g5, s5⟩
    rw [List.length_map, range_fm, fm_filterT] at g5
    have S5 := same_tr S4 s5
    refine ⟨_, rfl, D5, _, rfl, .inl (SqL.of g5), _, _, rfl, rfl, _, rfl, ?_⟩
    rw [List.length_map]
    have ev : jdueV rows ys = (match refused ls with | some v => [V.str "BadNumber", .int v] | none => [.int (joinLen ls), .int ys.length]) := by
      unfold jdueV
      rw [est, eag]
      dsimp only
      rw [if_neg e0, hls]
      all_goals (cases refused ls <;> rfl)
    cases hf : ls.filter fun x => decide (1 < (ls.length : Int)) && decide (x ≤ 1) with
    | cons v0 rest =>
      rw [hf] at g5 erf
      refine if_t (decide_eq_true (by simp)) ?_
      refine ⟨_, rfl, D5, _, 0, _, rfl, rfl, SqL.of g5, at_of (j := 0) rfl rfl, by show 2 ≤ sizeLine; decide, fun t ht => ?_⟩
      refine k t _ (same_tr S5 (same_new ht)) ?_
      rw [upd_same, ev, erf]
      rfl
    | nil =>
      rw [hf] at erf
      have erf : refused ls = none := erf
      refine if_f (by rfl) ?_
      have g45 := s5 _ _ g4
      refine ⟨_, rfl, D4, ls, rfl, SqL.of g45, _, rfl, D4, _, rfl, .inl (SqL.of g45), _, _, rfl, rfl, _, _, rfl, rfl, _, rfl, nl, _, rfl, .inl (SqL.of (s5 _ _ (s4 _ _ hn3))), by show 2 ≤ sizeLine; decide, fun t ht => ?_⟩
      refine k t _ (same_tr S5 (same_new ht)) ?_
      rw [upd_same, ev, erf]
      dsimp only
      have ej : joinLen ls = ls.sum - ((ls.map V.int).length : Int) + 1 := by
        unfold joinLen
        rw [if_neg fun z => e0 (List.length_eq_zero_iff.mp (by rw [← hlen, z]; rfl)), List.length_map]
        omega
      rw [ej, List.length_map (as := ys)]
end
end Law

namespace Law
open PySem PySem.Spec PyProof.Rows L2 Sup
def Simple (v : V) : Prop := (∃ y : Str, v = .str y ∧ ∀ c ∈ y.cps.toList, c < 1114112) ∨ ∃ i : Int, v = .int i
theorem simple_data {v : V} (h : Simple v) : ∃ D : PyData, (∀ (K : PySem.W.Frag) (H : Hp), Dp K H v D) ∧ PyData.canLay0 D = true ∧ PyData.depth D = 0 := by
  rcases h with ⟨y, rfl, h⟩ | ⟨i, rfl⟩
  · exact ⟨.str y, fun _ _ => .str y, ok_str h, rfl⟩
  · exact ⟨.int i, fun _ _ => .int i, int_ok i, rfl⟩
theorem pair_data {a b : V} (ha : Simple a) (hb : Simple b) : ∃ D : PyData, (∀ (K : PySem.W.Frag) (H : Hp) (t : Addr), H t = some (.tup [a, b]) → Dp K H (.ref t) D) ∧ SeqAt.shaped D = true := by
  obtain ⟨D1, p1, c1, d1⟩ := simple_data ha
  obtain ⟨D2, p2, c2, d2⟩ := simple_data hb
  exact ⟨.tuple [D1, D2], fun K H t h => .tup (SqT.of h) (.cons (p1 K H) (.cons (p2 K H) .nil)), shaped_pair c1 c2 d1 d2⟩
theorem again_mem : ∀ {seen r : List Str} {y : Str}, again seen r = some y → y ∈ r
  | _, [], _, h => by cases h
  | seen, x :: r, y, h => by
    unfold again at h
    split at h
    · cases h
      exact List.mem_cons_self
    · exact List.mem_cons_of_mem _ (again_mem h)
theorem lit_ok {y : Str} (h : ∀ c ∈ y.cps.toList, c < 1114112) : Simple (.str y) := .inl ⟨y, rfl, h⟩
theorem jdue_data (rows : List Row) {ys : List Str} (hY : ∀ y ∈ ys, Fit y) : ∃ D : PyData, (∀ (K : PySem.W.Frag) (H : Hp) (t : Addr), H t = some (.tup (jdueV rows ys)) → Dp K H (.ref t) D) ∧ SeqAt.shaped D = true := by
  have key : ∃ a b, jdueV rows ys = [a, b] ∧ Simple a ∧ Simple b := by
    unfold jdueV
    cases e1 : strange rows ys with
    | some y => exact ⟨_, _, rfl, lit_ok (by decide +kernel), lit_ok (hY y (List.mem_of_find?_eq_some e1)).2⟩
    | none =>
      cases e2 : again [] ys with
      | some y => exact ⟨_, _, rfl, lit_ok (by decide +kernel), lit_ok (hY y (again_mem e2)).2⟩
      | none =>
        dsimp only
        split
        · exact ⟨_, _, rfl, lit_ok (by decide +kernel), .inr ⟨_, rfl⟩⟩
        · cases refused (lensOf rows ys) with
          | some v => exact ⟨_, _, rfl, lit_ok (by decide +kernel), .inr ⟨_, rfl⟩⟩
          | none => exact ⟨_, _, rfl, .inr ⟨_, rfl⟩, .inr ⟨_, rfl⟩⟩
  obtain ⟨a, b, e, ha, hb⟩ := key
  rw [e]
  exact pair_data ha hb
theorem Wld.other {CR : Addr} {H : Hp} {b l r d rl p : Addr} {rows : List Row} {xs zs : List V} (W : Wld CR H b l r d rl rows) (hp : H p = some (.lst xs)) (n1 : p ≠ b) (n2 : p ≠ l) (n3 : p ≠ rl) : Wld CR (upd H p (.lst zs)) b l r d rl rows := by
  refine ⟨W.B.keep fun c hc => upd_ne ?_, ?_, ?_, W.n8, W.fit, W.nd, W.nl⟩
  · rcases hc with rfl | rfl
    · exact Ne.symm n1
    · exact Ne.symm n2
  · obtain ⟨⟨dx, fs, h1, h2⟩, h3⟩ := W.R
    have m1 : r ≠ p := fun z => by rw [z, hp] at h1; cases h1
    have m2 : d ≠ p := fun z => by rw [z, hp] at h3; cases h3
    exact ⟨⟨dx, fs, by rw [upd_ne m1]; exact h1, h2⟩, by rw [upd_ne m2]; exact h3⟩
  · obtain ⟨ts, h1, h2, h3⟩ := W.A
    refine ⟨ts, by rw [upd_ne (Ne.symm n3)]; exact h1, h2, fun i t y L e1 e2 => ?_⟩
    have z := h3 i t y L e1 e2
    have m : t ≠ p := fun w => by rw [w, hp] at z; cases z
    rw [upd_ne m]
    exact z
def extras : List Str := ["ivy", "Ash", "", "ivyivy"]
def spLaw (K : PySem.W.Frag) : Sp := fun vs H Q _ => ∃ (a : Addr) (ns : List Int), vs = [.ref a] ∧ SqL K H a (ns.map V.int) ∧ ns.length ≤ 63 ∧ ∀ H', Q (.bl true) H'
structure MTxt (mg : Str → Option Value) (fB fT fRk fOu fDu : Addr) : Prop where
  box : mg "_law_box" = some (.ref fB)
  take : mg "_law_take" = some (.ref fT)
  rk : mg "_law_rack" = some (.ref fRk)
  ou : mg "_law_outcome" = some (.ref fOu)
  due : mg "_law_due" = some (.ref fDu)
  b_len : mg "len" = none
  b_range : mg "range" = none
section
variable {P : Program} {w : World} {K : PySem.W.Frag} {mg : Str → Option Value} {base : Heap} {CR : Addr}
theorem scLaw : FnScope ["_law_script", "_law_box_here", "_law_rack_here", "_law_rows", "_law_names", "_law_k", "_law_pick", "_law_row"] ["_law_script"] (defScope sLaw) := ⟨rfl, rfl, rfl, by decide +kernel, rfl, by decide +kernel, by decide +kernel⟩
set_option maxHeartbeats 0 in
theorem ok_law {f fB fT fRk fOu fDu fNs : Addr} {fd fdB fdT fdRk fdOu fdDu fdNs : FuncData} (F : Fun K "law" "law" sLaw f fd) (T : MTxt mg fB fT fRk fOu fDu)
    (GB : FnOk P w K mg base CX0 1 fB fdB ["_law_script"] (spBox K)) (FB : Fun K "_law_box" "_law_box" sBox fB fdB) (bB : Binds K fdB ["_law_script"] [])
    (GT : FnOk P w K mg base CX0 1 fT fdT ["_law_box_here", "_law_size"] spTake) (FT : Fun K "_law_take" "_law_take" sTake fT fdT) (bT : Binds K fdT ["_law_box_here", "_law_size"] [])
    (GRk : FnOk P w K mg base CX0 8 fRk fdRk ["_law_box_here", "_law_many"] (spRk CR)) (FRk : Fun K "_law_rack" "_law_rack" sRk fRk fdRk) (bRk : Binds K fdRk ["_law_box_here", "_law_many"] [])
    (GOu : FnOk P w K mg base CX0 9 fOu fdOu ["_law_rack_here", "_law_names"] (spOu CR)) (FOu : Fun K "_law_outcome" "_law_outcome" sOu fOu fdOu) (bOu : Binds K fdOu ["_law_rack_here", "_law_names"] [])
    (GDu : FnOk P w K mg base CX0 1 fDu fdDu ["_law_rows", "_law_names"] spDue) (FDu : Fun K "_law_due" "_law_due" sDue fDu fdDu) (bDu : Binds K fdDu ["_law_rows", "_law_names"] [])
    (GNs : FnOk P w K mg base CX0 1 fNs fdNs ["self"] (spNms CR)) (bNs : Binds K fdNs ["self"] []) (MN : Meth K CR "names" fNs) (cl : Cls K CR) : FnOk P w K mg base CX0 10 f fd ["_law_script"] (spLaw K) := by
  refine F.ok scLaw (fun vs H Q E h => ?_) (fun cdv A outer s H vs Q E hr h => ?_)
  · obtain ⟨a, ns, rfl, _⟩ := h
    rfl
  · obtain ⟨a, ns, rfl, hS, h63, k⟩ := h
    have hr1 : Room 1 _ := hr.mono (by decide)
    have hr8 : Room 8 _ := hr.mono (by decide)
    refine ⟨_, (pss_cons (ps_set (i := 1) scLaw.nd rfl (Or.inl rfl) (pe_call GB hr1 rfl T.box FB.kp bB .nil pass0 (pa_cons (pv 0) pa_nil)))
      (pss_cons (ps_asg (pe_call GRk hr8 rfl T.rk FRk.kp bRk .nil pass0 (pa_cons (pv 1) (pa_cons pe_int pa_nil))) (pg_tup (by rfl) (pgs_cons (pg_name (i := 2) scLaw.nd rfl (Or.inl rfl)) (pgs_cons (pg_name (i := 3) scLaw.nd rfl (Or.inl rfl)) pgs_nil))))
      (pss_cons (ps_set (i := 4) scLaw.nd rfl (Or.inl rfl) (pe_lst pa_nil))
      (pss_cons (ps_for PassesOwn.never rfl (pi_range1 (by rfl) T.b_range (pa_cons (pe_call GT hr1 rfl T.take FT.kp bT .nil pass0 (pa_cons (pv 1) (pa_cons pe_int pa_nil))) pa_nil)) (pg_name (i := 5) scLaw.nd rfl (Or.inl rfl)) (pss_cons (ps_set (i := 6) scLaw.nd rfl (Or.inl rfl) (pe_call GT hr1 rfl T.take FT.kp bT .nil pass0 (pa_cons (pv 1) (pa_cons pe_int pa_nil))))
      (pss_one (ps_if (PW.pt (pw_and (pt_cmpR op_gt (pe_callB call_len_seq (by rfl) T.b_len PySem.boot_len (pa_cons (pv 3) pa_nil)) pe_int (nomark _)) (pw_and1 (pt_cmpR op_ne (pe_call GT hr1 rfl T.take FT.kp bT .nil pass0 (pa_cons (pv 1) (pa_cons pe_int pa_nil))) pe_int (nomark _))))) (pss_one (ps_expr (pe_bm PySem.F.plainAttrs_list PySem.F.slot_list_append PySem.F.type_list_append mt_append (pv 4) (pa_cons (pe_ix ix_tup (pe_ix ix_list (pv 3) (pe_op op_mod (pv 6) (pe_callB call_len_seq (by rfl) T.b_len PySem.boot_len (pa_cons (pv 3) pa_nil))) (fun _ _ => rfl)) pe_int (fun _ _ => rfl)) pa_nil)))) (pss_one (ps_expr (pe_bm PySem.F.plainAttrs_list PySem.F.slot_list_append PySem.F.type_list_append mt_append (pv 4) (pa_cons (pe_ix ix_list (pe_lst (pa_cons pe_str (pa_cons pe_str (pa_cons pe_str (pa_cons pe_str pa_nil))))) (pe_op op_mod (pv 6) pe_int) (fun _ _ => rfl)) pa_nil))))))))
      (pss_cons (ps_if (pt_cmpR (op_neD hr.units) (pe_call GOu hr rfl T.ou FOu.kp bOu .nil pass0 (pa_cons (pv 2) (pa_cons (pv 4) pa_nil))) (pe_call GDu hr1 rfl T.due FDu.kp bDu .nil pass0 (pa_cons (pv 3) (pa_cons (pv 4) pa_nil))) (nomark _)) (pss_one (ps_ret pe_bl)) pss_nil)
      (pss_one (ps_ret (pe_and (pe_cmpR (op_eqD hr.units) (pe_meth0 (pv 2) cl MN GNs hr1 bNs .nil pass0) (pe_lc (own := [("_law_row", 7)]) (g := gName 7) (tt := tYes) (by rfl) scLaw.nd (pi_list (pv 3)) (blkOk_by (own := [("_law_row", 7)]) (N := ["_law_script", "_law_box_here", "_law_rack_here", "_law_rows", "_law_names", "_law_k", "_law_pick", "_law_row"]) (sc := defScope sLaw) (by decide +kernel)) (fun _ _ _ _ _ => pg_name (i := 7) scLaw.nd rfl (Or.inl rfl)) (fun _ _ _ _ _ => pts_nil) (fun _ _ _ _ _ => (pe_ix (r := rIxT K) ix_tup (pv 7) pe_int (fun _ _ => rfl)))) (nomark _)) (pe_one (pe_cmpR (op_eqD hr.units) (pe_call GOu hr rfl T.ou FOu.kp bOu .nil pass0 (pa_cons (pv 2) (pa_cons (pv 4) pa_nil))) (pe_call GDu hr1 rfl T.due FDu.kp bDu .nil pass0 (pa_cons (pv 3) (pa_cons (pv 4) pa_nil))) (nomark _))))))))))), ?_⟩
    refine ⟨_, rfl, a, ns, rfl, hS, h63, fun b l H1 B1 nb nl s1 => ?_⟩
    refine ⟨_, rfl, b, l, 8, rfl, B1, by decide, by decide, fun t r d rl rows H2 e2 W2 hL s2 => ?_⟩
    refine ⟨t, _, rfl, SqT.of e2, rfl, _, _, rfl, _, _, rfl, rfl, ?_⟩
    refine ⟨by show 0 ≤ sizeLine; decide, fun yl hyl => ?_⟩
    have W3 := W2.same (same_new (o := .lst []) hyl)
    have fr := W2.B.free hyl
    have nrl : yl ≠ rl := fun z => by
      obtain ⟨xs, hx, _⟩ := W2.A.len
      rw [z, hx] at hyl
      cases hyl
    have e3 : upd H2 yl (.lst []) yl = some (.lst []) := upd_same
    generalize upd H2 yl (.lst []) = H3 at W3 e3
    refine ⟨_, rfl, b, l, _, rfl, W3.B, by decide, by decide, fun n H4 n0 n1 B4 k4 => ⟨n, rfl, by omega, by omega, ?_⟩⟩
    have W4 := W3.draw B4 (SameB.of k4)
    have e4 := (k4 yl (Ne.symm fr.1)).trans e3
    refine for_it (walk_range (lo := 0) (n := n.toNat)) (fun i σ' H' => ∃ (ys : List Str) (v5 v6 : Option V), σ' = [some (.ref a), some (.ref b), some (.ref r), some (.ref rl), some (.ref yl), v5, v6, none] ∧ Wld CR H' b l r d rl rows ∧ H' yl = some (.lst (ys.map V.str)) ∧ ys.length = i ∧ ∀ y ∈ ys, Fit y)
      ⟨[], _, _, rfl, W4, e4, rfl, fun _ h => nomatch h⟩ (fun _ _ _ _ _ => trivial) ?_ ?_
    · rintro i x σ' H5 H6 hi ⟨ys, v5, v6, rfl, W, e5, hlen, hY⟩ ⟨rfl, rfl⟩
      refine ⟨_, rfl, b, l, _, rfl, W.B, by decide, by decide, fun pick H7 p0 p1 B7 k7 => ?_⟩
      have W7 := W.draw B7 (SameB.of k7)
      have e7 := (k7 yl (Ne.symm fr.1)).trans e5
      obtain ⟨xs, hxs, hxl⟩ := W7.A.len
      -- a strange one
      have push : ∀ {H' : Hp} {y : Str}, Wld CR H' b l r d rl rows → H' yl = some (.lst (ys.map V.str)) → Fit y → ∃ (ys' : List Str), Wld CR (upd H' yl (.lst (ys.map V.str ++ [V.str y]))) b l r d rl rows ∧ (upd H' yl (.lst (ys.map V.str ++ [V.str y]))) yl = some (.lst (ys'.map V.str)) ∧ ys'.length = i + 1 ∧ ∀ y ∈ ys', Fit y := fun {H' y} W' e' fy =>
        ⟨ys ++ [y], W'.other e' (Ne.symm fr.1) (Ne.symm fr.2) nrl, by rw [upd_same, List.map_append]; rfl, by rw [List.length_append, hlen]; rfl, fun z hz => by
          rcases List.mem_append.mp hz with hz | hz
          · exact hY z hz
          · rw [List.mem_singleton] at hz
            subst hz
            exact fy⟩
      have hE : ∀ {q : Int}, 0 ≤ q → q < 4 → ∃ y, atI (extras.map V.str) q = some (.str y) ∧ Fit y := fun {q} q0 q1 => by
        have : q = 0 ∨ q = 1 ∨ q = 2 ∨ q = 3 := by omega
        rcases this with rfl | rfl | rfl | rfl
        · exact ⟨"ivy", rfl, by decide +kernel⟩
        · exact ⟨"Ash", rfl, by decide +kernel⟩
        · exact ⟨"", rfl, by decide +kernel⟩
        · exact ⟨"ivyivy", rfl, by decide +kernel⟩
      have small : (ys.map V.str).length < sizeLine := small1000 (by rw [List.length_map]; omega)
      refine ⟨_, rfl, rl, _, rfl, .inl (SqL.of hxs), _, _, rfl, rfl, _, rfl, ?_⟩
      rw [hxl]
      by_cases c0 : (0 : Int) < (rows.length : Int)
      · refine if_t (decide_eq_true c0) ⟨_, rfl, b, l, _, rfl, B7, by decide, by decide, fun q H8 _ _ B8 k8 => ⟨rfl, _, rfl, ?_⟩⟩
        have W8 := W7.draw B8 (SameB.of k8)
        have e8 := (k8 yl (Ne.symm fr.1)).trans e7
        by_cases c1 : q = 1
        · refine if_f (by rw [c1]; simp) ?_
          refine ⟨_, rfl, .inl ⟨rfl, _, SqL.of e8⟩, by show 4 ≤ sizeLine; decide, fun p hp => ?_⟩
          have sp_ := same_new (o := .lst (extras.map V.str)) hp
          obtain ⟨y, hy, fy⟩ := hE (q := pick % 4) (by omega) (by omega)
          obtain ⟨ys', w1, w2, w3, w4⟩ := push (W8.same sp_) (sp_ _ _ e8) fy
          exact ⟨_, rfl, _, _, rfl, rfl, (by show (0 : Int) < 4; decide), p, _, _, _, rfl, rfl, SqL.of upd_same, hy, yl, _, _, rfl, rfl, sp_ _ _ e8, small, ys', _, _, rfl, w1, w2, w3, w4⟩
        · refine if_t (by simp [c1]) ?_
          obtain ⟨xs8, hxs8, hxl8⟩ := W8.A.len
          have hm : 0 ≤ pick % (rows.length : Int) ∧ pick % (rows.length : Int) < (rows.length : Int) := ⟨Int.emod_nonneg _ (by omega), Int.emod_lt_of_pos _ c0⟩
          obtain ⟨⟨y, L⟩, hy⟩ : ∃ p, rows[(pick % (rows.length : Int)).toNat]? = some p := ⟨_, List.getElem?_eq_getElem (by omega)⟩
          obtain ⟨xs9, t9, g1, g2, g3⟩ := W8.A.at hy
          have ey : atI xs9 (pick % (rows.length : Int)) = some (.ref t9) := by
            have z := at_nat g2
            rw [Int.toNat_of_nonneg hm.1] at z
            exact z
          rw [hxs8] at g1
          cases g1
          obtain ⟨ys', w1, w2, w3, w4⟩ := push W8 e8 (W8.fit _ (List.mem_of_getElem? hy))
          refine ⟨_, rfl, .inl ⟨rfl, _, SqL.of e8⟩, _, rfl, _, rfl, _, rfl, rl, _, rfl, .inl (SqL.of hxs8), _, _, rfl, rfl, ?_⟩
          rw [hxl8]
          exact ⟨c0, rl, _, _, _, rfl, rfl, SqL.of hxs8, ey, t9, _, _, _, rfl, rfl, SqT.of g3, rfl, yl, _, _, rfl, rfl, e8, small, ys', _, _, rfl, w1, w2, w3, w4⟩
      · refine if_f (decide_eq_false c0) ?_
        refine ⟨_, rfl, .inl ⟨rfl, _, SqL.of e7⟩, by show 4 ≤ sizeLine; decide, fun p hp => ?_⟩
        have sp_ := same_new (o := .lst (extras.map V.str)) hp
        obtain ⟨y, hy, fy⟩ := hE (q := pick % 4) (by omega) (by omega)
        obtain ⟨ys', w1, w2, w3, w4⟩ := push (W7.same sp_) (sp_ _ _ e7) fy
        exact ⟨_, rfl, _, _, rfl, rfl, (by show (0 : Int) < 4; decide), p, _, _, _, rfl, rfl, SqL.of upd_same, hy, yl, _, _, rfl, rfl, sp_ _ _ e7, small, ys', _, _, rfl, w1, w2, w3, w4⟩
    rintro σ' H5 ⟨ys, v5, v6, rfl, W, e5, hlen, hY⟩
    have y6 : ys.length ≤ 6 := by omega
    have jin : ∀ {H'}, Same H5 H' → JIn CR rows ys H' r d := fun {H'} S => ⟨W.R.same S, by omega, hY, fun p hp => by
      have z := hL p hp
      exact Nat.lt_of_le_of_lt (show p.2.natAbs ≤ 10 ^ 18 by omega) (by decide +kernel)⟩
    have hF : ∀ p ∈ rows, Fit p.1 ∧ 0 ≤ p.2 := fun p hp => ⟨W.fit p hp, (hL p hp).1⟩
    obtain ⟨D, hD, sD⟩ := jdue_data rows hY
    have n8 := W.n8
    refine ⟨_, rfl, _, rfl, r, d, yl, rows, ys, rfl, e5, y6, jin same_rfl, fun t1 H6 s6 e6 => ?_⟩
    refine ⟨_, rfl, _, rfl, rl, yl, rows, ys, rfl, W.A.same s6, by omega, hF, s6 _ _ e5, by omega, hY, fun t2 H7 s7 e7 => ?_⟩
    have S7 := same_tr s6 s7
    refine ⟨D, D, hD _ _ _ (s7 _ _ e6), hD _ _ _ e7, sD, sD, _, rfl, if_f (by rw [eqv_rfl sD]; rfl) ?_⟩
    have fst : rows.map (fun x => V.str x.1) = (rows.map (·.1)).map V.str := by rw [List.map_map]; rfl
    have shp : SeqAt.shaped (.list ((rows.map (·.1)).map PyData.str)) = true := shaped_strs fun n hn => by
      obtain ⟨p, hp, rfl⟩ := List.mem_map.mp hn
      exact (W.fit p hp).2
    obtain ⟨⟨dx, fs, w1, w2, w3⟩, w4⟩ := W.R.same S7
    refine ⟨_, rfl, r, dx, fs, rfl, w1, w3 _ (by decide), r, d, rows, rfl, W.R.same S7, fun p hp => ?_⟩
    rw [fst]
    have sp_ := same_new (o := .lst ((rows.map (·.1)).map V.str)) hp
    refine r_names rfl (by decide) (by show 7 < 8; decide) (W.A.same (same_tr S7 sp_)) (by omega) fun D8 H8 _ g8 s8 => ?_
    refine ⟨.list ((rows.map (·.1)).map PyData.str), .list ((rows.map (·.1)).map PyData.str), .lst (SqL.of (s8 _ _ upd_same)) (dp_strs _), .lst (SqL.of g8) (dp_strs _), shp, shp, _, rfl, if_t (eqv_rfl shp) ?_⟩
    have S8 := same_tr (same_tr S7 sp_) s8
    refine ⟨_, rfl, _, rfl, r, d, yl, rows, ys, rfl, S8 _ _ e5, y6, jin S8, fun t3 H9 s9 e9 => ?_⟩
    have S9 := same_tr S8 s9
    refine ⟨_, rfl, _, rfl, rl, yl, rows, ys, rfl, W.A.same S9, by omega, hF, S9 _ _ e5, by omega, hY, fun t4 H10 s10 e10 => ?_⟩
    refine ⟨D, D, hD _ _ _ (s10 _ _ e9), hD _ _ _ e10, sD, sD, ?_⟩
    rw [eqv_rfl sD]
    exact k _
end
end Law

namespace Law
open PySem PySem.Spec PyProof.Rows L2 Sup NdefX
abbrev sEN : Stmt := inClass (top 5) 0
abbrev sET : Stmt := inClass (top 6) 0
abbrev sEU : Stmt := inClass (top 7) 0
abbrev sEM : Stmt := inClass (top 8) 0
theorem all_mk {P : Program} {w : World} {K : PySem.W.Frag} {h : Heap} {mg : Str → Option Value} {fa : Addr} (X : K.In h) (G : h.Ns mainGlobals mg) (hfa : mg "law" = some (.ref fa)) (htop : (P.main.scope.names.lookup ("super" : Str)).isSome = false)
    {fN : Addr} {odN anN : Option Addr} {slN : Array (Option Value)} {ocN kVN dcN pmN cdN ctN : Value}
    {fK : Addr} {odK anK : Option Addr} {slK : Array (Option Value)} {ocK kVK dcK pmK cdK ctK : Value}
    {fJ : Addr} {odJ anJ : Option Addr} {slJ : Array (Option Value)} {ocJ kVJ dcJ pmJ cdJ ctJ : Value}
    {fMi : Addr} {odMi anMi : Option Addr} {slMi : Array (Option Value)} {ocMi kVMi dcMi pmMi cdMi ctMi : Value}
    {DTMi : Addr} {xoMi : Value} {xdMi : Option Addr} {xsMi : Array (Option Value)} {xnMi : Nat} {tkI : Tok}
    {fRi : Addr} {odRi anRi : Option Addr} {slRi : Array (Option Value)} {ocRi kVRi dcRi pmRi cdRi ctRi : Value}
    {fRp : Addr} {odRp anRp : Option Addr} {slRp : Array (Option Value)} {ocRp kVRp dcRp pmRp cdRp ctRp : Value}
    {fRn : Addr} {odRn anRn : Option Addr} {slRn : Array (Option Value)} {ocRn kVRn dcRn pmRn cdRn ctRn : Value}
    {fRl : Addr} {odRl anRl : Option Addr} {slRl : Array (Option Value)} {ocRl kVRl dcRl pmRl cdRl ctRl : Value}
    {fRj : Addr} {odRj anRj : Option Addr} {slRj : Array (Option Value)} {ocRj kVRj dcRj pmRj cdRj ctRj : Value}
    {fB : Addr} {odB anB : Option Addr} {slB : Array (Option Value)} {ocB kVB dcB pmB cdB ctB : Value}
    {fT : Addr} {odT anT : Option Addr} {slT : Array (Option Value)} {ocT kVT dcT pmT cdT ctT : Value}
    {fNu : Addr} {odNu anNu : Option Addr} {slNu : Array (Option Value)} {ocNu kVNu dcNu pmNu cdNu ctNu : Value}
    {fRk : Addr} {odRk anRk : Option Addr} {slRk : Array (Option Value)} {ocRk kVRk dcRk pmRk cdRk ctRk : Value}
    {fCl : Addr} {odCl anCl : Option Addr} {slCl : Array (Option Value)} {ocCl kVCl dcCl pmCl cdCl ctCl : Value}
    {fOu : Addr} {odOu anOu : Option Addr} {slOu : Array (Option Value)} {ocOu kVOu dcOu pmOu cdOu ctOu : Value}
    {fDu : Addr} {odDu anDu : Option Addr} {slDu : Array (Option Value)} {ocDu kVDu dcDu pmDu cdDu ctDu : Value}
    {fL : Addr} {odL anL : Option Addr} {slL : Array (Option Value)} {ocL kVL dcL pmL cdL ctL : Value}
    {CEB BEB fiEB cdEB ccEB NEB : Addr} {nmEB qEB : Str} {bsEB : List Value} {snEB : List Str} {subEB : List Value} {abEB : Bool} {colEB : Option Bool} {ddEB : Option Addr} {m0EB m1EB m2EB m3EB m5EB : Option Value}
    {odEB anEB dkEB deEB : Option Addr} {slEB skEB seEB : Array (Option Value)} {ocEB kVEB dcEB pmEB ctEB ckEB ceEB : Value} {vkEB : Array Value} {flEB : Str} {tfEB : Tok}
    {CEN BEN fiEN cdEN ccEN NEN : Addr} {nmEN qEN : Str} {bsEN : List Value} {snEN : List Str} {subEN : List Value} {abEN : Bool} {colEN : Option Bool} {ddEN : Option Addr} {m0EN m1EN m2EN m3EN m5EN : Option Value}
    {odEN anEN dkEN deEN : Option Addr} {slEN skEN seEN : Array (Option Value)} {ocEN kVEN dcEN pmEN ctEN ckEN ceEN : Value} {vkEN : Array Value} {flEN : Str} {tfEN : Tok}
    {CET BET fiET cdET ccET NET : Addr} {nmET qET : Str} {bsET : List Value} {snET : List Str} {subET : List Value} {abET : Bool} {colET : Option Bool} {ddET : Option Addr} {m0ET m1ET m2ET m3ET m5ET : Option Value}
    {odET anET dkET deET : Option Addr} {slET skET seET : Array (Option Value)} {ocET kVET dcET pmET ctET ckET ceET : Value} {vkET : Array Value} {flET : Str} {tfET : Tok}
    {CEU BEU fiEU cdEU ccEU NEU : Addr} {nmEU qEU : Str} {bsEU : List Value} {snEU : List Str} {subEU : List Value} {abEU : Bool} {colEU : Option Bool} {ddEU : Option Addr} {m0EU m1EU m2EU m3EU m5EU : Option Value}
    {odEU anEU dkEU deEU : Option Addr} {slEU skEU seEU : Array (Option Value)} {ocEU kVEU dcEU pmEU ctEU ckEU ceEU : Value} {vkEU : Array Value} {flEU : Str} {tfEU : Tok}
    {CEM BEM fiEM cdEM ccEM NEM : Addr} {nmEM qEM : Str} {bsEM : List Value} {snEM : List Str} {subEM : List Value} {abEM : Bool} {colEM : Option Bool} {ddEM : Option Addr} {m0EM m1EM m2EM m3EM m5EM : Option Value}
    {odEM anEM dkEM deEM : Option Addr} {slEM skEM seEM : Array (Option Value)} {ocEM kVEM dcEM pmEM ctEM ckEM ceEM : Value} {vkEM : Array Value} {flEM : Str} {tfEM : Tok}
    {CRack CLadder : Addr} {tkLT tkLG tkMO tkO : Tok}
    (aCR : PySem.W.nsIn K mainGlobals "Rack" = some (some (.ref CRack)))
    (aCL : PySem.W.nsIn K mainGlobals "Ladder" = some (some (.ref CLadder)))
    (aN : PySem.W.nsIn K mainGlobals "check_name" = some (some (.ref fN)))
    (lN : K.lookup fN = some ⟨ocN, odN, .func (PySem.W.fnOf "check_name" "check_name" (defArgs sCkn) (defBody sCkn) (defScope sCkn) .none kVN dcN pmN anN cdN ctN), slN⟩)
    (cN : PySem.W.codeIn K cdN "check_name" = true)
    (kN : PySem.W.keepIn K (.ref fN) = true)
    (aK : PySem.W.nsIn K mainGlobals "check_not_negative" = some (some (.ref fK)))
    (lK : K.lookup fK = some ⟨ocK, odK, .func (PySem.W.fnOf "check_not_negative" "check_not_negative" (defArgs sChk) (defBody sChk) (defScope sChk) .none kVK dcK pmK anK cdK ctK), slK⟩)
    (cK : PySem.W.codeIn K cdK "check_not_negative" = true)
    (kK : PySem.W.keepIn K (.ref fK) = true)
    (aJ : PySem.W.nsIn K mainGlobals "joined_length" = some (some (.ref fJ)))
    (lJ : K.lookup fJ = some ⟨ocJ, odJ, .func (PySem.W.fnOf "joined_length" "joined_length" (defArgs sJoin) (defBody sJoin) (defScope sJoin) .none kVJ dcJ pmJ anJ cdJ ctJ), slJ⟩)
    (cJ : PySem.W.codeIn K cdJ "joined_length" = true)
    (kJ : PySem.W.keepIn K (.ref fJ) = true)
    (aMi : PySem.W.findIn K (.ref CLadder) "__init__" = some (some (.ref fMi)))
    (lMi : K.lookup fMi = some ⟨ocMi, odMi, .func (PySem.W.fnOf "__init__" "Ladder.__init__" (defArgs sInit) (defBody sInit) (defScope sInit) (.ref DTMi) kVMi dcMi pmMi anMi cdMi ctMi), slMi⟩)
    (cMi : PySem.W.codeIn K cdMi "Ladder.__init__" = true)
    (kMi : PySem.W.keepIn K (.ref fMi) = true)
    (iMi : PySem.W.isFn K (.ref fMi) = true)
    (dMi : K.lookup DTMi = some ⟨xoMi, xdMi, .seq #[.int 1 tkI] xnMi, xsMi⟩)
    (aRi : PySem.W.findIn K (.ref CRack) "__init__" = some (some (.ref fRi)))
    (lRi : K.lookup fRi = some ⟨ocRi, odRi, .func (PySem.W.fnOf "__init__" "Rack.__init__" (defArgs sRini) (defBody sRini) (defScope sRini) .none kVRi dcRi pmRi anRi cdRi ctRi), slRi⟩)
    (cRi : PySem.W.codeIn K cdRi "Rack.__init__" = true)
    (kRi : PySem.W.keepIn K (.ref fRi) = true)
    (iRi : PySem.W.isFn K (.ref fRi) = true)
    (aRp : PySem.W.findIn K (.ref CRack) "put" = some (some (.ref fRp)))
    (lRp : K.lookup fRp = some ⟨ocRp, odRp, .func (PySem.W.fnOf "put" "Rack.put" (defArgs sPut) (defBody sPut) (defScope sPut) .none kVRp dcRp pmRp anRp cdRp ctRp), slRp⟩)
    (cRp : PySem.W.codeIn K cdRp "Rack.put" = true)
    (kRp : PySem.W.keepIn K (.ref fRp) = true)
    (iRp : PySem.W.isFn K (.ref fRp) = true)
    (aRn : PySem.W.findIn K (.ref CRack) "names" = some (some (.ref fRn)))
    (lRn : K.lookup fRn = some ⟨ocRn, odRn, .func (PySem.W.fnOf "names" "Rack.names" (defArgs sNms) (defBody sNms) (defScope sNms) .none kVRn dcRn pmRn anRn cdRn ctRn), slRn⟩)
    (cRn : PySem.W.codeIn K cdRn "Rack.names" = true)
    (kRn : PySem.W.keepIn K (.ref fRn) = true)
    (iRn : PySem.W.isFn K (.ref fRn) = true)
    (aRl : PySem.W.findIn K (.ref CRack) "length_of" = some (some (.ref fRl)))
    (lRl : K.lookup fRl = some ⟨ocRl, odRl, .func (PySem.W.fnOf "length_of" "Rack.length_of" (defArgs sLof) (defBody sLof) (defScope sLof) .none kVRl dcRl pmRl anRl cdRl ctRl), slRl⟩)
    (cRl : PySem.W.codeIn K cdRl "Rack.length_of" = true)
    (kRl : PySem.W.keepIn K (.ref fRl) = true)
    (iRl : PySem.W.isFn K (.ref fRl) = true)
    (aRj : PySem.W.findIn K (.ref CRack) "joined" = some (some (.ref fRj)))
    (lRj : K.lookup fRj = some ⟨ocRj, odRj, .func (PySem.W.fnOf "joined" "Rack.joined" (defArgs sJnd) (defBody sJnd) (defScope sJnd) .none kVRj dcRj pmRj anRj cdRj ctRj), slRj⟩)
    (cRj : PySem.W.codeIn K cdRj "Rack.joined" = true)
    (kRj : PySem.W.keepIn K (.ref fRj) = true)
    (iRj : PySem.W.isFn K (.ref fRj) = true)
    (aB : PySem.W.nsIn K mainGlobals "_law_box" = some (some (.ref fB)))
    (lB : K.lookup fB = some ⟨ocB, odB, .func (PySem.W.fnOf "_law_box" "_law_box" (defArgs sBox) (defBody sBox) (defScope sBox) .none kVB dcB pmB anB cdB ctB), slB⟩)
    (cB : PySem.W.codeIn K cdB "_law_box" = true)
    (kB : PySem.W.keepIn K (.ref fB) = true)
    (aT : PySem.W.nsIn K mainGlobals "_law_take" = some (some (.ref fT)))
    (lT : K.lookup fT = some ⟨ocT, odT, .func (PySem.W.fnOf "_law_take" "_law_take" (defArgs sTake) (defBody sTake) (defScope sTake) .none kVT dcT pmT anT cdT ctT), slT⟩)
    (cT : PySem.W.codeIn K cdT "_law_take" = true)
    (kT : PySem.W.keepIn K (.ref fT) = true)
    (aNu : PySem.W.nsIn K mainGlobals "_law_number" = some (some (.ref fNu)))
    (lNu : K.lookup fNu = some ⟨ocNu, odNu, .func (PySem.W.fnOf "_law_number" "_law_number" (defArgs sNum) (defBody sNum) (defScope sNum) .none kVNu dcNu pmNu anNu cdNu ctNu), slNu⟩)
    (cNu : PySem.W.codeIn K cdNu "_law_number" = true)
    (kNu : PySem.W.keepIn K (.ref fNu) = true)
    (aRk : PySem.W.nsIn K mainGlobals "_law_rack" = some (some (.ref fRk)))
    (lRk : K.lookup fRk = some ⟨ocRk, odRk, .func (PySem.W.fnOf "_law_rack" "_law_rack" (defArgs sRk) (defBody sRk) (defScope sRk) .none kVRk dcRk pmRk anRk cdRk ctRk), slRk⟩)
    (cRk : PySem.W.codeIn K cdRk "_law_rack" = true)
    (kRk : PySem.W.keepIn K (.ref fRk) = true)
    (aCl : PySem.W.nsIn K mainGlobals "_law_call" = some (some (.ref fCl)))
    (lCl : K.lookup fCl = some ⟨ocCl, odCl, .func (PySem.W.fnOf "_law_call" "_law_call" (defArgs sCl) (defBody sCl) (defScope sCl) .none kVCl dcCl pmCl anCl cdCl ctCl), slCl⟩)
    (cCl : PySem.W.codeIn K cdCl "_law_call" = true)
    (kCl : PySem.W.keepIn K (.ref fCl) = true)
    (aOu : PySem.W.nsIn K mainGlobals "_law_outcome" = some (some (.ref fOu)))
    (lOu : K.lookup fOu = some ⟨ocOu, odOu, .func (PySem.W.fnOf "_law_outcome" "_law_outcome" (defArgs sOu) (defBody sOu) (defScope sOu) .none kVOu dcOu pmOu anOu cdOu ctOu), slOu⟩)
    (cOu : PySem.W.codeIn K cdOu "_law_outcome" = true)
    (kOu : PySem.W.keepIn K (.ref fOu) = true)
    (aDu : PySem.W.nsIn K mainGlobals "_law_due" = some (some (.ref fDu)))
    (lDu : K.lookup fDu = some ⟨ocDu, odDu, .func (PySem.W.fnOf "_law_due" "_law_due" (defArgs sDue) (defBody sDue) (defScope sDue) .none kVDu dcDu pmDu anDu cdDu ctDu), slDu⟩)
    (cDu : PySem.W.codeIn K cdDu "_law_due" = true)
    (kDu : PySem.W.keepIn K (.ref fDu) = true)
    (aL : PySem.W.nsIn K mainGlobals "law" = some (some (.ref fL)))
    (lL : K.lookup fL = some ⟨ocL, odL, .func (PySem.W.fnOf "law" "law" (defArgs sLaw) (defBody sLaw) (defScope sLaw) .none kVL dcL pmL anL cdL ctL), slL⟩)
    (cL : PySem.W.codeIn K cdL "law" = true)
    (kL : PySem.W.keepIn K (.ref fL) = true)
    (opq : PySem.W.nsIn K cStatics "thirdparty.any" = some none)
    (nsup : PySem.W.nsIn K mainGlobals "super" = some none)
    (aEB : PySem.W.nsIn K mainGlobals "BadNumber" = some (some (.ref CEB)))
    (xEB : K.lookup CEB = some (excClassObj nmEB qEB CEB NEB bsEB [.ref BEB, .type "ValueError", .type "Exception", .type "BaseException", .type "object"] true snEB subEB abEB colEB ddEB m0EB m1EB m2EB m3EB m5EB "ValueError.__new__"))
    (saEB : PySem.W.findIn K (.ref CEB) "__setattr__" = some (some (.builtin "object.__setattr__")))
    (gaEB : PySem.W.findIn K (.ref CEB) "__getattribute__" = some (some (.builtin "BaseException.__getattribute__")))
    (ggEB : PySem.W.findIn K (.ref CEB) "__getattr__" = some none)
    (nbEB : PySem.W.findIn K (.ref CEB) "value" = some none)
    (iEB : PySem.W.findIn K (.ref CEB) "__init__" = some (some (.ref fiEB)))
    (tEB : PySem.W.typeIn K (.ref fiEB) = some (.type "function"))
    (lEB : K.lookup fiEB = some ⟨ocEB, odEB, .func (PySem.W.fnX "__init__" "BadNumber.__init__" (defArgs sErr) (defBody sErr) (defScope sErr) [("__class__", ccEB)] .none kVEB dcEB pmEB anEB (.ref cdEB) ctEB), slEB⟩)
    (coEB : PySem.W.codeIn K (.ref cdEB) "BadNumber.__init__" = true)
    (lkEB : K.lookup cdEB = some ⟨ckEB, dkEB, .fields vkEB, skEB⟩)
    (vkEBx : vkEB[2]? = some (.str flEB tfEB))
    (feEB : ((P.main.file : Str) == flEB) = true)
    (leEB : K.lookup ccEB = some ⟨ceEB, deEB, .cell (some (.ref CEB)), seEB⟩)
    (mrEB : PySem.W.mroIn K CEB (.ref CEB) = some true)
    (upEB : PySem.W.ks_superIn K CEB CEB "__init__" = some (some (.builtin "ValueError.__init__")))
    (svEB : PySem.W.subIn K (.ref CEB) (.type "ValueError") = some true)
    (kcEB : PySem.W.keepIn K (.ref CEB) = true)
    (ebEB : PySem.W.subIn K (.ref CEB) (.type "BaseException") = some true)
    (tyEB : PySem.W.typeIn K (.ref CEB) = some (.type "type"))
    (hdEB : PySem.W.hasDictIn K CEB = true)
    (ssEB : PySem.W.subIn K (.ref CEB) (.ref CEB) = some true)
    (aEN : PySem.W.nsIn K mainGlobals "BadName" = some (some (.ref CEN)))
    (xEN : K.lookup CEN = some (excClassObj nmEN qEN CEN NEN bsEN [.ref BEN, .type "ValueError", .type "Exception", .type "BaseException", .type "object"] true snEN subEN abEN colEN ddEN m0EN m1EN m2EN m3EN m5EN "ValueError.__new__"))
    (saEN : PySem.W.findIn K (.ref CEN) "__setattr__" = some (some (.builtin "object.__setattr__")))
    (gaEN : PySem.W.findIn K (.ref CEN) "__getattribute__" = some (some (.builtin "BaseException.__getattribute__")))
    (ggEN : PySem.W.findIn K (.ref CEN) "__getattr__" = some none)
    (nbEN : PySem.W.findIn K (.ref CEN) "name" = some none)
    (iEN : PySem.W.findIn K (.ref CEN) "__init__" = some (some (.ref fiEN)))
    (tEN : PySem.W.typeIn K (.ref fiEN) = some (.type "function"))
    (lEN : K.lookup fiEN = some ⟨ocEN, odEN, .func (PySem.W.fnX "__init__" "BadName.__init__" (defArgs sEN) (defBody sEN) (defScope sEN) [("__class__", ccEN)] .none kVEN dcEN pmEN anEN (.ref cdEN) ctEN), slEN⟩)
    (coEN : PySem.W.codeIn K (.ref cdEN) "BadName.__init__" = true)
    (lkEN : K.lookup cdEN = some ⟨ckEN, dkEN, .fields vkEN, skEN⟩)
    (vkENx : vkEN[2]? = some (.str flEN tfEN))
    (feEN : ((P.main.file : Str) == flEN) = true)
    (leEN : K.lookup ccEN = some ⟨ceEN, deEN, .cell (some (.ref CEN)), seEN⟩)
    (mrEN : PySem.W.mroIn K CEN (.ref CEN) = some true)
    (upEN : PySem.W.ks_superIn K CEN CEN "__init__" = some (some (.builtin "ValueError.__init__")))
    (svEN : PySem.W.subIn K (.ref CEN) (.type "ValueError") = some true)
    (kcEN : PySem.W.keepIn K (.ref CEN) = true)
    (ebEN : PySem.W.subIn K (.ref CEN) (.type "BaseException") = some true)
    (tyEN : PySem.W.typeIn K (.ref CEN) = some (.type "type"))
    (hdEN : PySem.W.hasDictIn K CEN = true)
    (ssEN : PySem.W.subIn K (.ref CEN) (.ref CEN) = some true)
    (aET : PySem.W.nsIn K mainGlobals "TakenName" = some (some (.ref CET)))
    (xET : K.lookup CET = some (excClassObj nmET qET CET NET bsET [.ref BET, .type "ValueError", .type "Exception", .type "BaseException", .type "object"] true snET subET abET colET ddET m0ET m1ET m2ET m3ET m5ET "ValueError.__new__"))
    (saET : PySem.W.findIn K (.ref CET) "__setattr__" = some (some (.builtin "object.__setattr__")))
    (gaET : PySem.W.findIn K (.ref CET) "__getattribute__" = some (some (.builtin "BaseException.__getattribute__")))
    (ggET : PySem.W.findIn K (.ref CET) "__getattr__" = some none)
    (nbET : PySem.W.findIn K (.ref CET) "name" = some none)
    (iET : PySem.W.findIn K (.ref CET) "__init__" = some (some (.ref fiET)))
    (tET : PySem.W.typeIn K (.ref fiET) = some (.type "function"))
    (lET : K.lookup fiET = some ⟨ocET, odET, .func (PySem.W.fnX "__init__" "TakenName.__init__" (defArgs sET) (defBody sET) (defScope sET) [("__class__", ccET)] .none kVET dcET pmET anET (.ref cdET) ctET), slET⟩)
    (coET : PySem.W.codeIn K (.ref cdET) "TakenName.__init__" = true)
    (lkET : K.lookup cdET = some ⟨ckET, dkET, .fields vkET, skET⟩)
    (vkETx : vkET[2]? = some (.str flET tfET))
    (feET : ((P.main.file : Str) == flET) = true)
    (leET : K.lookup ccET = some ⟨ceET, deET, .cell (some (.ref CET)), seET⟩)
    (mrET : PySem.W.mroIn K CET (.ref CET) = some true)
    (upET : PySem.W.ks_superIn K CET CET "__init__" = some (some (.builtin "ValueError.__init__")))
    (svET : PySem.W.subIn K (.ref CET) (.type "ValueError") = some true)
    (kcET : PySem.W.keepIn K (.ref CET) = true)
    (ebET : PySem.W.subIn K (.ref CET) (.type "BaseException") = some true)
    (tyET : PySem.W.typeIn K (.ref CET) = some (.type "type"))
    (hdET : PySem.W.hasDictIn K CET = true)
    (ssET : PySem.W.subIn K (.ref CET) (.ref CET) = some true)
    (aEU : PySem.W.nsIn K mainGlobals "UnknownName" = some (some (.ref CEU)))
    (xEU : K.lookup CEU = some (excClassObj nmEU qEU CEU NEU bsEU [.ref BEU, .type "ValueError", .type "Exception", .type "BaseException", .type "object"] true snEU subEU abEU colEU ddEU m0EU m1EU m2EU m3EU m5EU "ValueError.__new__"))
    (saEU : PySem.W.findIn K (.ref CEU) "__setattr__" = some (some (.builtin "object.__setattr__")))
    (gaEU : PySem.W.findIn K (.ref CEU) "__getattribute__" = some (some (.builtin "BaseException.__getattribute__")))
    (ggEU : PySem.W.findIn K (.ref CEU) "__getattr__" = some none)
    (nbEU : PySem.W.findIn K (.ref CEU) "name" = some none)
    (iEU : PySem.W.findIn K (.ref CEU) "__init__" = some (some (.ref fiEU)))
    (tEU : PySem.W.typeIn K (.ref fiEU) = some (.type "function"))
    (lEU : K.lookup fiEU = some ⟨ocEU, odEU, .func (PySem.W.fnX "__init__" "UnknownName.__init__" (defArgs sEU) (defBody sEU) (defScope sEU) [("__class__", ccEU)] .none kVEU dcEU pmEU anEU (.ref cdEU) ctEU), slEU⟩)
    (coEU : PySem.W.codeIn K (.ref cdEU) "UnknownName.__init__" = true)
    (lkEU : K.lookup cdEU = some ⟨ckEU, dkEU, .fields vkEU, skEU⟩)
    (vkEUx : vkEU[2]? = some (.str flEU tfEU))
    (feEU : ((P.main.file : Str) == flEU) = true)
    (leEU : K.lookup ccEU = some ⟨ceEU, deEU, .cell (some (.ref CEU)), seEU⟩)
    (mrEU : PySem.W.mroIn K CEU (.ref CEU) = some true)
    (upEU : PySem.W.ks_superIn K CEU CEU "__init__" = some (some (.builtin "ValueError.__init__")))
    (svEU : PySem.W.subIn K (.ref CEU) (.type "ValueError") = some true)
    (kcEU : PySem.W.keepIn K (.ref CEU) = true)
    (ebEU : PySem.W.subIn K (.ref CEU) (.type "BaseException") = some true)
    (tyEU : PySem.W.typeIn K (.ref CEU) = some (.type "type"))
    (hdEU : PySem.W.hasDictIn K CEU = true)
    (ssEU : PySem.W.subIn K (.ref CEU) (.ref CEU) = some true)
    (aEM : PySem.W.nsIn K mainGlobals "TooMany" = some (some (.ref CEM)))
    (xEM : K.lookup CEM = some (excClassObj nmEM qEM CEM NEM bsEM [.ref BEM, .type "ValueError", .type "Exception", .type "BaseException", .type "object"] true snEM subEM abEM colEM ddEM m0EM m1EM m2EM m3EM m5EM "ValueError.__new__"))
    (saEM : PySem.W.findIn K (.ref CEM) "__setattr__" = some (some (.builtin "object.__setattr__")))
    (gaEM : PySem.W.findIn K (.ref CEM) "__getattribute__" = some (some (.builtin "BaseException.__getattribute__")))
    (ggEM : PySem.W.findIn K (.ref CEM) "__getattr__" = some none)
    (nbEM : PySem.W.findIn K (.ref CEM) "count" = some none)
    (iEM : PySem.W.findIn K (.ref CEM) "__init__" = some (some (.ref fiEM)))
    (tEM : PySem.W.typeIn K (.ref fiEM) = some (.type "function"))
    (lEM : K.lookup fiEM = some ⟨ocEM, odEM, .func (PySem.W.fnX "__init__" "TooMany.__init__" (defArgs sEM) (defBody sEM) (defScope sEM) [("__class__", ccEM)] .none kVEM dcEM pmEM anEM (.ref cdEM) ctEM), slEM⟩)
    (coEM : PySem.W.codeIn K (.ref cdEM) "TooMany.__init__" = true)
    (lkEM : K.lookup cdEM = some ⟨ckEM, dkEM, .fields vkEM, skEM⟩)
    (vkEMx : vkEM[2]? = some (.str flEM tfEM))
    (feEM : ((P.main.file : Str) == flEM) = true)
    (leEM : K.lookup ccEM = some ⟨ceEM, deEM, .cell (some (.ref CEM)), seEM⟩)
    (mrEM : PySem.W.mroIn K CEM (.ref CEM) = some true)
    (upEM : PySem.W.ks_superIn K CEM CEM "__init__" = some (some (.builtin "ValueError.__init__")))
    (svEM : PySem.W.subIn K (.ref CEM) (.type "ValueError") = some true)
    (kcEM : PySem.W.keepIn K (.ref CEM) = true)
    (ebEM : PySem.W.subIn K (.ref CEM) (.type "BaseException") = some true)
    (tyEM : PySem.W.typeIn K (.ref CEM) = some (.type "type"))
    (hdEM : PySem.W.hasDictIn K CEM = true)
    (ssEM : PySem.W.subIn K (.ref CEM) (.ref CEM) = some true)
    (n_len : PySem.W.nsIn K mainGlobals "len" = some none)
    (n_int : PySem.W.nsIn K mainGlobals "int" = some none)
    (n_isinstance : PySem.W.nsIn K mainGlobals "isinstance" = some none)
    (n_bool : PySem.W.nsIn K mainGlobals "bool" = some none)
    (n_range : PySem.W.nsIn K mainGlobals "range" = some none)
    (n_list : PySem.W.nsIn K mainGlobals "list" = some none)
    (n_sum : PySem.W.nsIn K mainGlobals "sum" = some none)
    (cPG : PySem.W.plainGet K CRack Str.empty = true)
    (cHD : PySem.W.hasDictIn K CRack = true)
    (cPO : PySem.W.plainOver K CRack = true)
    (cSA : PySem.W.findIn K (.ref CRack) "__setattr__" = some (some (.builtin "object.__setattr__")))
    (cMK : PySem.W.makesIn K CRack = true)
    (cKP : PySem.W.keepIn K (.ref CRack) = true)
    (dPG : PySem.W.plainGet K CLadder Str.empty = true)
    (dHD : PySem.W.hasDictIn K CLadder = true)
    (dPO : PySem.W.plainOver K CLadder = true)
    (dSA : PySem.W.findIn K (.ref CLadder) "__setattr__" = some (some (.builtin "object.__setattr__")))
    (dMK : PySem.W.makesIn K CLadder = true)
    (dKP : PySem.W.keepIn K (.ref CLadder) = true)
    (cNL : PySem.W.findIn K (.ref CRack) "_lengths" = some none)
    (dNL : PySem.W.findIn K (.ref CLadder) "length" = some none)
    (dNP : PySem.W.findIn K (.ref CLadder) "parts" = some none)
    (tLT : PySem.W.nsIn K mainGlobals "LETTERS" = some (some (.str letters tkLT)))
    (tLG : PySem.W.nsIn K mainGlobals "LONGEST_NAME" = some (some (.int 12 tkLG)))
    (tMO : PySem.W.nsIn K mainGlobals "MOST_LADDERS" = some (some (.int 8 tkMO)))
    (rdD : PySem.W.readsIn K CLadder (.type "type") = true)
    (gaD : PySem.W.specialIn K (.ref CLadder) "__getattribute__" = some (some (.builtin "type.__getattribute__")))
    (ovD : PySem.W.findCls K (.ref CLadder) (.type "type") "OVERLAP" = some (.val (.int 1 tkO)))
    (sTU : PySem.W.subIn K (.ref CET) (.ref CEU) = some false)
    (sBU : PySem.W.subIn K (.ref CEB) (.ref CEU) = some false)
    (sBT : PySem.W.subIn K (.ref CEB) (.ref CET) = some false) :
    ∃ fd : FuncData, (∀ (s : Shared) (v : Value), BindsTo s fd ⟨[v], []⟩ [("_law_script", v)]) ∧ ∀ base : Heap, K.In base → base.Ns mainGlobals mg → FnOk P w K mg base CX0 10 fa fd ["_law_script"] (spLaw K) := by
  have e := hfa.symm.trans (PySem.W.mg_of X G aL)
  cases e
  have FN := fun_mk (st := sCkn) lN cN kN
  have bN := FN.binds (ps := ["name"]) fun _ _ _ _ _ _ us hl => match us, hl with | [_], _ => rfl
  have FK := fun_mk (st := sChk) lK cK kK
  have bK := FK.binds (ps := ["number"]) fun _ _ _ _ _ _ us hl => match us, hl with | [_], _ => rfl
  have FJ := fun_mk (st := sJoin) lJ cJ kJ
  have bJ := trivial
  have FMi : FunD K "__init__" "Ladder.__init__" (defArgs sInit) (defBody sInit) (defScope sInit) [.int 1] [] fMi _ := ⟨⟨ocMi, odMi, .ref DTMi, kVMi, dcMi, pmMi, anMi, cdMi, ctMi, slMi, rfl, lMi, cMi, .inr ⟨by simp, DTMi, _, [.int 1 tkI], xnMi, rfl, dMi, rfl, .cons (⟨_, rfl⟩) (.nil)⟩, .inl rfl⟩, kMi⟩
  obtain ⟨dsMi0, vdMi0, bMi0⟩ := FMi.binds1 (ps := ["self", "length", "parts"]) 2 0 (by simp) (by decide) fun T kV doc pm an cdv ct us its hu hi => match us, hu, its, hi with | [_, _], _, [_], _ => ⟨_, rfl, rfl⟩
  obtain ⟨dsMi1, vdMi1, bMi1⟩ := FMi.binds1 (ps := ["self", "length", "parts"]) 3 1 (by simp) (by decide) fun T kV doc pm an cdv ct us its hu hi => match us, hu, its, hi with | [_, _, _], _, [_], _ => ⟨_, rfl, rfl⟩
  cases vdMi1
  have FRi := fun_mk (st := sRini) lRi cRi kRi
  have bRi := trivial
  have FRp := fun_mk (st := sPut) lRp cRp kRp
  have bRp := FRp.binds (ps := ["self", "name", "length"]) fun _ _ _ _ _ _ us hl => match us, hl with | [_, _, _], _ => rfl
  have FRn := fun_mk (st := sNms) lRn cRn kRn
  have bRn := FRn.binds (ps := ["self"]) fun _ _ _ _ _ _ us hl => match us, hl with | [_], _ => rfl
  have FRl := fun_mk (st := sLof) lRl cRl kRl
  have bRl := FRl.binds (ps := ["self", "name"]) fun _ _ _ _ _ _ us hl => match us, hl with | [_, _], _ => rfl
  have FRj := fun_mk (st := sJnd) lRj cRj kRj
  have bRj := trivial
  have FB := fun_mk (st := sBox) lB cB kB
  have bB := FB.binds (ps := ["_law_script"]) fun _ _ _ _ _ _ us hl => match us, hl with | [_], _ => rfl
  have FT := fun_mk (st := sTake) lT cT kT
  have bT := FT.binds (ps := ["_law_box_here", "_law_size"]) fun _ _ _ _ _ _ us hl => match us, hl with | [_, _], _ => rfl
  have FNu := fun_mk (st := sNum) lNu cNu kNu
  have bNu := FNu.binds (ps := ["_law_x"]) fun _ _ _ _ _ _ us hl => match us, hl with | [_], _ => rfl
  have FRk := fun_mk (st := sRk) lRk cRk kRk
  have bRk := FRk.binds (ps := ["_law_box_here", "_law_many"]) fun _ _ _ _ _ _ us hl => match us, hl with | [_, _], _ => rfl
  have FCl := fun_mk (st := sCl) lCl cCl kCl
  have bCl := FCl.binds (ps := ["_law_rack_here", "_law_names"]) fun _ _ _ _ _ _ us hl => match us, hl with | [_, _], _ => rfl
  have FOu := fun_mk (st := sOu) lOu cOu kOu
  have bOu := FOu.binds (ps := ["_law_rack_here", "_law_names"]) fun _ _ _ _ _ _ us hl => match us, hl with | [_, _], _ => rfl
  have FDu := fun_mk (st := sDue) lDu cDu kDu
  have bDu := FDu.binds (ps := ["_law_rows", "_law_names"]) fun _ _ _ _ _ _ us hl => match us, hl with | [_, _], _ => rfl
  have FL := fun_mk (st := sLaw) lL cL kL
  have bL := FL.binds (ps := ["_law_script"]) fun _ _ _ _ _ _ us hl => match us, hl with | [_], _ => rfl
  have OEB : OexC K CEB := ⟨⟨nmEB, qEB, NEB, bsEB, _, snEB, subEB, abEB, colEB, ddEB, m0EB, m1EB, m2EB, m3EB, m5EB, xEB, by rfl⟩, saEB, ebEB, tyEB, kcEB⟩
  have TEB : ErrTxt P K mg CEB fiEB cdEB ccEB "BadNumber.__init__" sErr := {
    oex := OEB
    iC := iEB
    tI := tEB
    fn := ⟨_, _, _, _, _, _, _, _, lEB⟩
    code := coEB
    file := ⟨_, vkEB, flEB, tfEB, lkEB, rfl, vkEBx, feEB⟩
    cell := ⟨_, leEB, rfl⟩
    self := mrEB
    opaque_ := opq
    up := upEB
    isVE := svEB
    top := htop
    noSup := PySem.W.mg_none_of X G nsup }
  have REB : ∀ base, ErrOk P w K mg base "BadNumber" CEB "value" okInt := fun base => by
    obtain ⟨fd, hfd, hb⟩ := err_int (w := w) (base := base) TEB rfl rfl (nscope_by (by decide +kernel)) (fun _ _ _ _ _ _ _ us hl => match us, hl with | [_, _], _ => rfl) rfl rfl rfl (by decide) (by decide) (by decide) nbEB
    exact ⟨OEB, ⟨gaEB, ggEB, ebEB, hdEB⟩, PySem.W.mg_of X G aEB, nbEB, PySem.W.exm_ref ebEB hdEB tyEB ssEB, ⟨_, fd, iEB, tEB, hfd, hb⟩⟩
  have OEN : OexC K CEN := ⟨⟨nmEN, qEN, NEN, bsEN, _, snEN, subEN, abEN, colEN, ddEN, m0EN, m1EN, m2EN, m3EN, m5EN, xEN, by rfl⟩, saEN, ebEN, tyEN, kcEN⟩
  have TEN : ErrTxt P K mg CEN fiEN cdEN ccEN "BadName.__init__" sEN := {
    oex := OEN
    iC := iEN
    tI := tEN
    fn := ⟨_, _, _, _, _, _, _, _, lEN⟩
    code := coEN
    file := ⟨_, vkEN, flEN, tfEN, lkEN, rfl, vkENx, feEN⟩
    cell := ⟨_, leEN, rfl⟩
    self := mrEN
    opaque_ := opq
    up := upEN
    isVE := svEN
    top := htop
    noSup := PySem.W.mg_none_of X G nsup }
  have REN : ∀ base, ErrOk P w K mg base "BadName" CEN "name" okTxt := fun base => by
    obtain ⟨fd, hfd, hb⟩ := err_txt (w := w) (base := base) TEN rfl rfl (nscope_by (by decide +kernel)) (fun _ _ _ _ _ _ _ us hl => match us, hl with | [_, _], _ => rfl) rfl rfl rfl (by decide) (by decide) (by decide) nbEN
    exact ⟨OEN, ⟨gaEN, ggEN, ebEN, hdEN⟩, PySem.W.mg_of X G aEN, nbEN, PySem.W.exm_ref ebEN hdEN tyEN ssEN, ⟨_, fd, iEN, tEN, hfd, hb⟩⟩
  have OET : OexC K CET := ⟨⟨nmET, qET, NET, bsET, _, snET, subET, abET, colET, ddET, m0ET, m1ET, m2ET, m3ET, m5ET, xET, by rfl⟩, saET, ebET, tyET, kcET⟩
  have TET : ErrTxt P K mg CET fiET cdET ccET "TakenName.__init__" sET := {
    oex := OET
    iC := iET
    tI := tET
    fn := ⟨_, _, _, _, _, _, _, _, lET⟩
    code := coET
    file := ⟨_, vkET, flET, tfET, lkET, rfl, vkETx, feET⟩
    cell := ⟨_, leET, rfl⟩
    self := mrET
    opaque_ := opq
    up := upET
    isVE := svET
    top := htop
    noSup := PySem.W.mg_none_of X G nsup }
  have RET : ∀ base, ErrOk P w K mg base "TakenName" CET "name" okTxt := fun base => by
    obtain ⟨fd, hfd, hb⟩ := err_txt (w := w) (base := base) TET rfl rfl (nscope_by (by decide +kernel)) (fun _ _ _ _ _ _ _ us hl => match us, hl with | [_, _], _ => rfl) rfl rfl rfl (by decide) (by decide) (by decide) nbET
    exact ⟨OET, ⟨gaET, ggET, ebET, hdET⟩, PySem.W.mg_of X G aET, nbET, PySem.W.exm_ref ebET hdET tyET ssET, ⟨_, fd, iET, tET, hfd, hb⟩⟩
  have OEU : OexC K CEU := ⟨⟨nmEU, qEU, NEU, bsEU, _, snEU, subEU, abEU, colEU, ddEU, m0EU, m1EU, m2EU, m3EU, m5EU, xEU, by rfl⟩, saEU, ebEU, tyEU, kcEU⟩
  have TEU : ErrTxt P K mg CEU fiEU cdEU ccEU "UnknownName.__init__" sEU := {
    oex := OEU
    iC := iEU
    tI := tEU
    fn := ⟨_, _, _, _, _, _, _, _, lEU⟩
    code := coEU
    file := ⟨_, vkEU, flEU, tfEU, lkEU, rfl, vkEUx, feEU⟩
    cell := ⟨_, leEU, rfl⟩
    self := mrEU
    opaque_ := opq
    up := upEU
    isVE := svEU
    top := htop
    noSup := PySem.W.mg_none_of X G nsup }
  have REU : ∀ base, ErrOk P w K mg base "UnknownName" CEU "name" okTxt := fun base => by
    obtain ⟨fd, hfd, hb⟩ := err_txt (w := w) (base := base) TEU rfl rfl (nscope_by (by decide +kernel)) (fun _ _ _ _ _ _ _ us hl => match us, hl with | [_, _], _ => rfl) rfl rfl rfl (by decide) (by decide) (by decide) nbEU
    exact ⟨OEU, ⟨gaEU, ggEU, ebEU, hdEU⟩, PySem.W.mg_of X G aEU, nbEU, PySem.W.exm_ref ebEU hdEU tyEU ssEU, ⟨_, fd, iEU, tEU, hfd, hb⟩⟩
  have OEM : OexC K CEM := ⟨⟨nmEM, qEM, NEM, bsEM, _, snEM, subEM, abEM, colEM, ddEM, m0EM, m1EM, m2EM, m3EM, m5EM, xEM, by rfl⟩, saEM, ebEM, tyEM, kcEM⟩
  have TEM : ErrTxt P K mg CEM fiEM cdEM ccEM "TooMany.__init__" sEM := {
    oex := OEM
    iC := iEM
    tI := tEM
    fn := ⟨_, _, _, _, _, _, _, _, lEM⟩
    code := coEM
    file := ⟨_, vkEM, flEM, tfEM, lkEM, rfl, vkEMx, feEM⟩
    cell := ⟨_, leEM, rfl⟩
    self := mrEM
    opaque_ := opq
    up := upEM
    isVE := svEM
    top := htop
    noSup := PySem.W.mg_none_of X G nsup }
  have REM : ∀ base, ErrOk P w K mg base "TooMany" CEM "count" okInt := fun base => by
    obtain ⟨fd, hfd, hb⟩ := err_int (w := w) (base := base) TEM rfl rfl (nscope_by (by decide +kernel)) (fun _ _ _ _ _ _ _ us hl => match us, hl with | [_, _], _ => rfl) rfl rfl rfl (by decide) (by decide) (by decide) nbEM
    exact ⟨OEM, ⟨gaEM, ggEM, ebEM, hdEM⟩, PySem.W.mg_of X G aEM, nbEM, PySem.W.exm_ref ebEM hdEM tyEM ssEM, ⟨_, fd, iEM, tEM, hfd, hb⟩⟩
  exact ⟨PySem.W.fnOf "law" "law" (defArgs sLaw) (defBody sLaw) (defScope sLaw) .none kVL dcL pmL anL cdL ctL, fun s v => .of_eq rfl, fun base _ _ => by
    have cl : Cls K CRack := ⟨cPG, cHD, cPO, cSA⟩
    have cl2 : Cls K CLadder := ⟨dPG, dHD, dPO, dSA⟩
    have bt : BoxTxt K mg := ⟨PySem.W.mg_none_of X G n_len, PySem.W.mg_none_of X G n_int⟩
    have nt : NumTxt mg := ⟨PySem.W.mg_none_of X G n_isinstance, PySem.W.mg_none_of X G n_int, PySem.W.mg_none_of X G n_bool⟩
    have RT : RackTxt K mg CRack fN fK := { letters := ⟨_, PySem.W.mg_of X G tLT⟩, longest := ⟨_, PySem.W.mg_of X G tLG⟩, most := ⟨_, PySem.W.mg_of X G tMO⟩, ckn := PySem.W.mg_of X G aN, chk := PySem.W.mg_of X G aK, len := PySem.W.mg_none_of X G n_len, list := PySem.W.mg_none_of X G n_list, cl := cl, nD := cNL }
    have OT : OverTxt K mg CLadder (.type "type") (.int 1 tkO) := { g := PySem.W.mg_of X G aCL, cr := ⟨rdD, gaD⟩, cv := ⟨ovD, ⟨_, rfl⟩⟩, len := PySem.W.mg_none_of X G n_len, sum := PySem.W.mg_none_of X G n_sum }
    have LI : LadI K mg CLadder fK fJ := { lad := PySem.W.mg_of X G aCL, chk := PySem.W.mg_of X G aK, join := PySem.W.mg_of X G aJ, cl := cl2, nL := dNL, nP := dNP }
    have MP : Meth K CRack "put" fRp := ⟨aRp, iRp, kRp⟩
    have MN : Meth K CRack "names" fRn := ⟨aRn, iRn, kRn⟩
    have ML : Meth K CRack "length_of" fRl := ⟨aRl, iRl, kRl⟩
    have MJ : Meth K CRack "joined" fRj := ⟨aRj, iRj, kRj⟩
    have MKL : Mk K CLadder fMi := ⟨dMK, aMi, iMi, dKP⟩
    have MKR : Mk K CRack fRi := ⟨cMK, aRi, iRi, cKP⟩
    have GP0 := ok_put (P := P) (w := w) (base := base) (C := (⟨CEN, CET, CEB, CEM, CEU⟩ : Errs)) FRp (REN base) (RET base) (REB base) (REM base) FN bN FK bK RT
    have GP := Own.fnr0 GP0 bRp
    have GNs := ok_nms (P := P) (w := w) (base := base) FRn RT
    have GLo := Own.fnr0 (ok_lof (P := P) (w := w) (base := base) (C := (⟨CEN, CET, CEB, CEM, CEU⟩ : Errs)) FRl (REU base) RT) bRl
    have GJ := ok_join (P := P) (w := w) (base := base) FJ (REB base) OT (fun rest => by cases rest <;> rfl)
    have GI := Own.fnr0 (ok_init (P := P) (w := w) (base := base) FMi (REB base) FK bK LI) bMi1
    have G0 := ok_rini (ks := []) FRi (REM base) GP0 MP bRp (by decide +kernel) (by decide) (fun us ws hu hw => match us, hu, ws, hw with | [_], _, [], _ => rfl) RT
    have GJn := ok_jnd (P := P) (w := w) (base := base) (C := (⟨CEN, CET, CEB, CEM, CEU⟩ : Errs)) FRj (RET base) (REB base) GLo ML GJ FJ.kp MKL GI RT LI (fun us rest hu => match us, hu with | [_], _ => (by cases rest <;> rfl))
    have AP : Apart3 K (⟨CEN, CET, CEB, CEM, CEU⟩ : Errs) := { tu := PySem.W.exm_ref ebEU hdEU tyEU sTU, bu := PySem.W.exm_ref ebEU hdEU tyEU sBU, bt := PySem.W.exm_ref ebET hdET tyET sBT }
    have LT : LTxt mg CRack fT fNu fCl := { rack := PySem.W.mg_of X G aCR, take := PySem.W.mg_of X G aT, num := PySem.W.mg_of X G aNu, call := PySem.W.mg_of X G aCl, b_len := PySem.W.mg_none_of X G n_len, b_range := PySem.W.mg_none_of X G n_range }
    have GB : FnOk P w K mg base CX0 1 fB _ ["_law_script"] (spBox K) := ok_box FB bt
    have GT : FnOk P w K mg base CX0 1 fT _ ["_law_box_here", "_law_size"] spTake := ok_take FT bt
    have GNu : FnOk P w K mg base CX0 1 fNu _ ["_law_x"] spNum := ok_num FNu nt
    have GCl := ok_cl (P := P) (w := w) (base := base) FCl GJn MJ cl LT
    exact ok_law FL { box := PySem.W.mg_of X G aB, take := PySem.W.mg_of X G aT, rk := PySem.W.mg_of X G aRk, ou := PySem.W.mg_of X G aOu, due := PySem.W.mg_of X G aDu, b_len := PySem.W.mg_none_of X G n_len, b_range := PySem.W.mg_none_of X G n_range }
      GB FB bB GT FT bT (ok_rk FRk GT FT bT MKR G0 GP MP cl LT) FRk bRk (ok_ou FOu (REU base) (RET base) (REB base) GCl FCl bCl GNu FNu bNu cl2 dNL dNP AP LT) FOu bOu (ok_due FDu { b_len := PySem.W.mg_none_of X G n_len, b_range := PySem.W.mg_none_of X G n_range, b_sum := PySem.W.mg_none_of X G n_sum }) FDu bDu GNs bRn MN cl⟩
theorem walk {l : PySem.W.OpenLaw} {q : Program} {loose : List Str} {XP : (Str → Option Value) → Heap → Prop} {YP : World → Heap → Prop} {d : DefRec} {K : Params → PySem.W.Frag} (hn : l.most = some 63) (hdf : d.params.defaults = [])
    (hY : ∀ (w : World) (h : Heap), YP w h → (K w.params).In h)
    (F : ∀ (w : World) (mg : Str → Option Value) (fa : Addr) (h : Heap), (K w.params).In h → h.Ns mainGlobals mg → mg d.name = some (.ref fa) →
      ∃ fd : FuncData, (∀ (s : Shared) (u : Value), BindsTo s fd ⟨[u], []⟩ [("_law_script", u)]) ∧ ∀ base : Heap, (K w.params).In base → base.Ns mainGlobals mg → FnOk l.prog w (K w.params) mg base CX0 10 fa fd ["_law_script"] (spLaw (K w.params))) :
    PySem.W.WalkO q loose XP YP l.row.toRowW d [] (fun f vs => PySem.call f vs) :=
  L2.walk_of (n := 63) (k := 10) (x := "_law_script") (CX := fun _ => CX0) (sp := fun w => spLaw (K w.params)) hn (by decide) hdf ⟨rfl, by decide, by decide⟩ hY F (fun _ _ a ns hl _ hS => ⟨a, ns, rfl, hS, hl, fun _ => rfl⟩) fun _ _ _ _ _ z => z
end Law

open PySem PySem.W PyProof.Rows
set_option maxRecDepth 100000 in
set_option maxHeartbeats 0 in
theorem PySem.Challenge.cw_rungbounds_k06_join_of_named_ladders_holds : PySem.Challenge.rw_rungbounds_k06_join_of_named_ladders.Holds := by
  w_on; o_law; k_head; (case hw => w_witness2)
  k_fill
  refine Law.walk (l := PySem.Challenge.rw_rungbounds_k06_join_of_named_ladders) rfl rfl (fun w h Y => PySem.W.kIn_of Y) ?F
  case F =>
    intro w mg fa h KX G hmg
    refine' Law.all_mk KX G hmg (by rfl) ?aCR ?aCL ?aN ?lN ?cN ?kN ?aK ?lK ?cK ?kK ?aJ ?lJ ?cJ ?kJ ?aMi ?lMi ?cMi ?kMi ?iMi ?dMi ?aRi ?lRi ?cRi ?kRi ?iRi ?aRp ?lRp ?cRp ?kRp ?iRp ?aRn ?lRn ?cRn ?kRn ?iRn ?aRl ?lRl ?cRl ?kRl ?iRl ?aRj ?lRj ?cRj ?kRj ?iRj ?aB ?lB ?cB ?kB ?aT ?lT ?cT ?kT ?aNu ?lNu ?cNu ?kNu ?aRk ?lRk ?cRk ?kRk ?aCl ?lCl ?cCl ?kCl ?aOu ?lOu ?cOu ?kOu ?aDu ?lDu ?cDu ?kDu ?aL ?lL ?cL ?kL ?opq ?nsup ?aEB ?xEB ?saEB ?gaEB ?ggEB ?nbEB ?iEB ?tEB ?lEB ?coEB ?lkEB ?vkEBx ?feEB ?leEB ?mrEB ?upEB ?svEB ?kcEB ?ebEB ?tyEB ?hdEB ?ssEB ?aEN ?xEN ?saEN ?gaEN ?ggEN ?nbEN ?iEN ?tEN ?lEN ?coEN ?lkEN ?vkENx ?feEN ?leEN ?mrEN ?upEN ?svEN ?kcEN ?ebEN ?tyEN ?hdEN ?ssEN ?aET ?xET ?saET ?gaET ?ggET ?nbET ?iET ?tET ?lET ?coET ?lkET ?vkETx ?feET ?leET ?mrET ?upET ?svET ?kcET ?ebET ?tyET ?hdET ?ssET ?aEU ?xEU ?saEU ?gaEU ?ggEU ?nbEU ?iEU ?tEU ?lEU ?coEU ?lkEU ?vkEUx ?feEU ?leEU ?mrEU ?upEU ?svEU ?kcEU ?ebEU ?tyEU ?hdEU ?ssEU ?aEM ?xEM ?saEM ?gaEM ?ggEM ?nbEM ?iEM ?tEM ?lEM ?coEM ?lkEM ?vkEMx ?feEM ?leEM ?mrEM ?upEM ?svEM ?kcEM ?ebEM ?tyEM ?hdEM ?ssEM ?n_len ?n_int ?n_isinstance ?n_bool ?n_range ?n_list ?n_sum ?cPG ?cHD ?cPO ?cSA ?cMK ?cKP ?dPG ?dHD ?dPO ?dSA ?dMK ?dKP ?cNL ?dNL ?dNP ?tLT ?tLG ?tMO ?rdD ?gaD ?ovD ?sTU ?sBU ?sBT
    (case aCR => k_is)
    (case aCL => k_is)
    (case aN => k_is)
    (case lN => k_is)
    (case cN => k_is)
    (case kN => k_is)
    (case aK => k_is)
    (case lK => k_is)
    (case cK => k_is)
    (case kK => k_is)
    (case aJ => k_is)
    (case lJ => k_is)
    (case cJ => k_is)
    (case kJ => k_is)
    (case aMi => k_is)
    (case lMi => k_is)
    (case cMi => k_is)
    (case kMi => k_is)
    (case iMi => k_is)
    (case dMi => k_is)
    (case aRi => k_is)
    (case lRi => k_is)
    (case cRi => k_is)
    (case kRi => k_is)
    (case iRi => k_is)
    (case aRp => k_is)
    (case lRp => k_is)
    (case cRp => k_is)
    (case kRp => k_is)
    (case iRp => k_is)
    (case aRn => k_is)
    (case lRn => k_is)
    (case cRn => k_is)
    (case kRn => k_is)
    (case iRn => k_is)
    (case aRl => k_is)
    (case lRl => k_is)
    (case cRl => k_is)
    (case kRl => k_is)
    (case iRl => k_is)
    (case aRj => k_is)
    (case lRj => k_is)
    (case cRj => k_is)
    (case kRj => k_is)
    (case iRj => k_is)
    (case aB => k_is)
    (case lB => k_is)
    (case cB => k_is)
    (case kB => k_is)
    (case aT => k_is)
    (case lT => k_is)
    (case cT => k_is)
    (case kT => k_is)
    (case aNu => k_is)
    (case lNu => k_is)
    (case cNu => k_is)
    (case kNu => k_is)
    (case aRk => k_is)
    (case lRk => k_is)
    (case cRk => k_is)
    (case kRk => k_is)
    (case aCl => k_is)
    (case lCl => k_is)
    (case cCl => k_is)
    (case kCl => k_is)
    (case aOu => k_is)
    (case lOu => k_is)
    (case cOu => k_is)
    (case kOu => k_is)
    (case aDu => k_is)
    (case lDu => k_is)
    (case cDu => k_is)
    (case kDu => k_is)
    (case aL => k_is)
    (case lL => k_is)
    (case cL => k_is)
    (case kL => k_is)
    (case opq => k_is)
    (case nsup => k_is)
    (case aEB => k_is)
    (case xEB => k_is)
    (case saEB => k_is)
    (case gaEB => k_is)
    (case ggEB => k_is)
    (case nbEB => k_is)
    (case iEB => k_is)
    (case tEB => k_is)
    (case lEB => k_is)
    (case coEB => k_is)
    (case lkEB => k_is)
    (case vkEBx => rfl)
    (case feEB => decide +kernel)
    (case leEB => k_is)
    (case mrEB => k_is)
    (case upEB => first | ks_is | rfl)
    (case svEB => k_is)
    (case kcEB => k_is)
    (case ebEB => k_is)
    (case tyEB => k_is)
    (case hdEB => k_is)
    (case ssEB => first | rfl | k_is)
    (case aEN => k_is)
    (case xEN => k_is)
    (case saEN => k_is)
    (case gaEN => k_is)
    (case ggEN => k_is)
    (case nbEN => k_is)
    (case iEN => k_is)
    (case tEN => k_is)
    (case lEN => k_is)
    (case coEN => k_is)
    (case lkEN => k_is)
    (case vkENx => rfl)
    (case feEN => decide +kernel)
    (case leEN => k_is)
    (case mrEN => k_is)
    (case upEN => first | ks_is | rfl)
    (case svEN => k_is)
    (case kcEN => k_is)
    (case ebEN => k_is)
    (case tyEN => k_is)
    (case hdEN => k_is)
    (case ssEN => first | rfl | k_is)
    (case aET => k_is)
    (case xET => k_is)
    (case saET => k_is)
    (case gaET => k_is)
    (case ggET => k_is)
    (case nbET => k_is)
    (case iET => k_is)
    (case tET => k_is)
    (case lET => k_is)
    (case coET => k_is)
    (case lkET => k_is)
    (case vkETx => rfl)
    (case feET => decide +kernel)
    (case leET => k_is)
    (case mrET => k_is)
    (case upET => first | ks_is | rfl)
    (case svET => k_is)
    (case kcET => k_is)
    (case ebET => k_is)
    (case tyET => k_is)
    (case hdET => k_is)
    (case ssET => first | rfl | k_is)
    (case aEU => k_is)
    (case xEU => k_is)
    (case saEU => k_is)
    (case gaEU => k_is)
    (case ggEU => k_is)
    (case nbEU => k_is)
    (case iEU => k_is)
    (case tEU => k_is)
    (case lEU => k_is)
    (case coEU => k_is)
    (case lkEU => k_is)
    (case vkEUx => rfl)
    (case feEU => decide +kernel)
    (case leEU => k_is)
    (case mrEU => k_is)
    (case upEU => first | ks_is | rfl)
    (case svEU => k_is)
    (case kcEU => k_is)
    (case ebEU => k_is)
    (case tyEU => k_is)
    (case hdEU => k_is)
    (case ssEU => first | rfl | k_is)
    (case aEM => k_is)
    (case xEM => k_is)
    (case saEM => k_is)
    (case gaEM => k_is)
    (case ggEM => k_is)
    (case nbEM => k_is)
    (case iEM => k_is)
    (case tEM => k_is)
    (case lEM => k_is)
    (case coEM => k_is)
    (case lkEM => k_is)
    (case vkEMx => rfl)
    (case feEM => decide +kernel)
    (case leEM => k_is)
    (case mrEM => k_is)
    (case upEM => first | ks_is | rfl)
    (case svEM => k_is)
    (case kcEM => k_is)
    (case ebEM => k_is)
    (case tyEM => k_is)
    (case hdEM => k_is)
    (case ssEM => first | rfl | k_is)
    (case n_len => k_is)
    (case n_int => k_is)
    (case n_isinstance => k_is)
    (case n_bool => k_is)
    (case n_range => k_is)
    (case n_list => k_is)
    (case n_sum => k_is)
    (case cPG => first | k_is | rfl | kernel_rfl)
    (case cHD => first | k_is | rfl | kernel_rfl)
    (case cPO => first | k_is | rfl | kernel_rfl)
    (case cSA => k_is)
    (case cMK => first | k_is | rfl | kernel_rfl)
    (case cKP => k_is)
    (case dPG => first | k_is | rfl | kernel_rfl)
    (case dHD => first | k_is | rfl | kernel_rfl)
    (case dPO => first | k_is | rfl | kernel_rfl)
    (case dSA => k_is)
    (case dMK => first | k_is | rfl | kernel_rfl)
    (case dKP => k_is)
    (case cNL => k_is)
    (case dNL => k_is)
    (case dNP => k_is)
    (case tLT => k_is)
    (case tLG => k_is)
    (case tMO => k_is)
    (case rdD => k_is)
    (case gaD => k_is)
    (case ovD => k_is)
    (case sTU => first | rfl | k_is)
    (case sBU => first | rfl | k_is)
    (case sBT => first | rfl | k_is)
