import PyProof.Rows.All
import Wide.All
import OpenK.AllK
import Wide.FinOn
import HandS.ForMost
import HandS.Wide
import HandS.ExcInit
import HandS.FStr
import HandS.Nested
import HandS.TryOnly
import HandS.ExcField
import HandS.WordsExc
import HandS.IsInst
import HandS.Codes
import HandS.Gcd
import HandS.Star
import HandS.ClsMeth
import KE.KTupSum
import HandS.Defaults
import HandS.ExcIs
import KE.KExcSuper
import KE.KMathG
import HandS.FStrTup
import HandS.OwnEq
import HandS.TupLe
import HandS.DeepEq
import HandS.MakeKw
import HandS.Walk
import HandS.WordsDict
import HandS.More
import HandS.Deep
import HandS.Style
import HandS.Flow
import PyProof.ReprReads
import PySem.Challenge.RW_rungbounds_k05_rack_of_names
set_option Elab.async false
set_option linter.all false
set_option maxRecDepth 100000
set_option maxHeartbeats 4000000
/-! Errors whose making calls super().__init__ on a text, then keeps a field. -/
namespace Sup
open PySem PySem.Spec PyProof.Rows L2 NdefX

abbrev mwrap (x : Addr) : Obj := PySem.W.kxs_mw "ValueError.__init__" x

/-- the wrapper of ValueError.__init__ bound to a, called -/
theorem call_wrap {prog : Program} {w : World} {A : Around} {E : Value → Shared → Prop} {h : Heap} {g : Array GenState} {d : Drawn} {t : Nat} {os : OsState}
    {nm q : Str} {C N : Addr} {bs bm : List Value} {hd : Bool} {sn : List Str} {sub : List Value} {ab : Bool} {col : Option Bool} {dd : Option Addr} {k0 k1 k2 k3 k5 : Option Value}
    {u a t0 : Addr} {us : List Value} {Q : Value → Shared → Prop}
    (hC : h.get? C = some (excClassObj nm q C N bs bm hd sn sub ab col dd k0 k1 k2 k3 k5 "ValueError.__new__"))
    (ha : h.get? a = some (PySem.HandSPX.excO C t0)) (hu : h.get? u = some (mwrap a)) (hl : us.length ≤ sizeLine)
    (hq : ∀ h' t1, (∀ b o, b ≠ a → h.get? b = some o → h'.get? b = some o) → h'.get? a = some (PySem.HandSPX.excO C t1) → Q .none ⟨h', g, d, t, os⟩) :
    wpAny (model prog w) A (call (.ref u) us) Q E ⟨h, g, d, t, os⟩ := by
  have FB := F.excBase_ValueError
  refine wpAny_call (codeAny_of_tree ?_)
  show wpAny _ A.in1 (callAny (.ref u) ⟨us, []⟩) _ _ _
  unfold callAny
  refine wpAny_bind (wpAny_load hu ?_)
  have k1' : (Value.type "method-wrapper" == Value.type "method" || Value.type "method-wrapper" == Value.type "builtin_function_or_method" || Value.type "method-wrapper" == Value.type "method-wrapper") = true := by decide
  simp only [mwrap, PySem.W.kxs_mw, k1', if_true]
  refine PySem.W.KFB.if_so (by decide) ?_
  refine wpAny_bind (PySem.W.check_bound_init FB.toExcCallFacts hC ha rfl ?_)
  refine wpAny_bind (wpAny_pure (wpAny_pure ?_))
  refine ⟨plainId_quiet FB.init.plain _, codeAny_builtin FB.initEntry ?_⟩
  exact PySem.W.exc_init_tree (cls := .ref C) (t0 := t0) (dv := none) (c2 := .none) (c3 := .none) (b4 := .bool false) ha hl fun h' k e _ => hq h' _ k e

/-- what the written part says of an own error's class at C and its __init__ at f -/
structure ErrTxt (P : Program) (K : PySem.W.Frag) (mg : Str → Option Value) (C f cda cc : Addr) (qual : Str) (st : Stmt) : Prop where
  oex : OexC K C
  iC : PySem.W.findIn K (.ref C) "__init__" = some (some (.ref f))
  tI : PySem.W.typeIn K (.ref f) = some (.type "function")
  fn : ∃ (oc : Value) (od an : Option Addr) (kV doc pm ct : Value) (osl : Array (Option Value)),
    K.lookup f = some ⟨oc, od, .func (PySem.W.fnX "__init__" qual (defArgs st) (defBody st) (defScope st) [("__class__", cc)] .none kV doc pm an (.ref cda) ct), osl⟩
  code : PySem.W.codeIn K (.ref cda) qual = true
  file : ∃ (o : Obj) (vs : Array Value) (fl : Str) (tf : Tok), K.lookup cda = some o ∧ o.data = .fields vs ∧ vs[2]? = some (.str fl tf) ∧ ((P.main.file : Str) == fl) = true
  cell : ∃ (o : Obj), K.lookup cc = some o ∧ o.data = .cell (some (.ref C))
  self : PySem.W.mroIn K C (.ref C) = some true
  opaque_ : PySem.W.nsIn K cStatics "thirdparty.any" = some none
  up : PySem.W.ks_superIn K C C "__init__" = some (some (.builtin "ValueError.__init__"))
  isVE : PySem.W.subIn K (.ref C) (.type "ValueError") = some true
  top : (P.main.scope.names.lookup ("super" : Str)).isSome = false
  noSup : mg "super" = none

section
variable {X : Cx} {pins : List (Addr × Obj)} {σ : L2.St} {H : Hp} {s : Shared} {a C f cda cc : Addr} {qual : Str} {st : Stmt} {e : Expr} {te : TE} {body : List Stmt} {p0 p1 p2 p3 : Pos} {Q : Hp → Prop} {scope : Scope} {ar : Arg}
theorem super_init (T : ErrTxt X.prog X.K X.mg C f cda cc qual st) (I : Inv X pins σ H s)
    (henv : X.env = PySem.W.envX qual scope X.env.locals f (.ref cda) [("__class__", cc)])
    (hks : scope.names.lookup ("super" : Str) = some .globalImplicit) (hkc : scope.names.lookup ("__class__" : Str) = some .free)
    (hks' : scope.names.lookup ar.arg = some .local)
    (har : ((defArgs st).posonlyargs ++ (defArgs st).args).head? = some ar)
    (h0 : X.N[0]? = some ar.arg) (hs0 : σ[0]? = some (some (V.ref a))) (ha : H a = some (exo a C none))
    (he : PE X e te) (hq : te σ H fun x H1 => [x].length ≤ 1 ∧ H1 a = some (exo a C none) ∧ Q H1) {pl : Sem Bool}
    (hform : eval (.Call (.Attribute (.Call (.Name "super" p0) [] [] p1) "__init__" p2) [e] [] p3) X.env = (do
      let ov ← attributeBase (.Call (.Name "super" p0) [] [] p1) "__init__" X.env (eval (.Call (.Name "super" p0) [] [] p1) X.env)
      standAt p2.atName
      let (g, first) ← holding [ov] (getMethod ov "__init__" pl)
      callWith p3 g first (backTo p3 (starEach [e] X.env)) []) := by rfl)
    (hse : starEach [e] X.env = (false, eval e X.env) :: starEach [] X.env := by rfl) :
    _root_.PySem.wpAt (model X.prog X.w) X.A (.func body X.env) (eval (.Call (.Attribute (.Call (.Name "super" p0) [] [] p1) "__init__" p2) [e] [] p3) X.env)
      (fun _ s' => ∃ H', Inv X pins σ H' s' ∧ Q H') X.xe s := by
  have kS : X.env.kindOf "super" = some .globalImplicit := by rw [henv]; exact hks
  have kC : X.env.kindOf "__class__" = some .free := by rw [henv]; exact hkc
  have kA : X.env.kindOf ar.arg = some .local := by rw [henv]; exact hks'
  have cL : X.env.cells.lookup ("__class__" : Str) = some cc := by rw [henv]; rfl
  have fL : X.env.func = some f := by rw [henv]
  have dL : X.env.code = .ref cda := by rw [henv]
  obtain ⟨nm, q, N, bs, bm, sn, sub, ab, col, dd, k0, k1, k2, k3, k5, hC, hbm⟩ := T.oex.cls
  have hcl : PySem.W.clsIn X.K C = some { name := nm, bases := bs, mro := .ref C :: bm, ns := N, qualname := q, hasDict := true, slotNames := sn, subclasses := sub, abstract := ab, collection := col, hasDel := false } := by
    unfold PySem.W.clsIn; rw [hC] <;> rfl
  obtain ⟨oc, od, an, kV, doc, pm, ct, osl, lf⟩ := T.fn
  obtain ⟨oF, vs, fl, tf, lc, hvf, hv2, hfl⟩ := T.file
  obtain ⟨oc2, lcell, dcell⟩ := T.cell
  obtain ⟨t1, hga⟩ := exo_at I.hok ha
  refine ks_wpAt_MethodCall (o := .Call (.Name "super" p0) [] [] p1) (name := "__init__") (apos := p2) (pos := p3) (args := [e]) (env := X.env) ?_ hform
  refine ks_wpAt_super_base (env := X.env) (cc := cda) (ar := ar) kS kC (by decide) fL (I.kIn _ _ lf) rfl har dL (I.kIn _ _ lc) hvf hv2 hfl T.top ?_
  -- the name super
  obtain ⟨mb, hb1, hb2⟩ := I.mod.blt
  refine PySem.W.ks_loadName_global I.ok.kind kS (Calls.loadGlobal_builtin (v := .type "super") (by rw [I.ok.glob]; exact I.mod.glob.keeps I.bk) T.noSup
    (by rw [I.ok.blt]; exact hb1.keeps I.bk) ((hb2 _ (by decide)).trans (by decide +kernel)) ⟨rfl, ?_⟩)
  -- the cell __class__
  refine wpAny_loadName_free I.ok.kind kC cL (v := .ref C) ⟨_, I.kIn _ _ lcell, dcell⟩ ?_
  -- self
  obtain ⟨m, hn, hlm⟩ := I.loc
  obtain ⟨u, ru, hlook⟩ := hlm 0 ar.arg (V.ref a) h0 hs0 (.inl (by rw [henv]; exact hks'))
  obtain rfl : u = Value.ref a := ru
  have hma : m ar.arg = some (Value.ref a) := by
    rcases hlook with ⟨_, z⟩ | ⟨z, _⟩
    · exact z
    · rw [kA] at z
      rcases z with z | z <;> cases z
  refine wpAny_loadName_local I.ok.kind kA hn hma ?_
  have gC := I.kIn _ _ hC
  refine ks_wpAny_isType_cls gC rfl ⟨rfl, ?_⟩
  obtain ⟨hp, g, d, t, os⟩ := s
  refine ks_wpAny_call_super gC rfl hga rfl (fun c z => by cases z) (PySem.W.looks_mroIn I.kIn T.self) fun h1 e1 k1 => ?_
  have J1 : Inv X pins σ H ⟨h1, g, d, t, os⟩ := I.kept (t' := t) k1
  have I1 : PySem.W.InstAt h1 a (PySem.HandSPX.excO C t1) C none := ⟨k1 _ _ hga, rfl, rfl, trivial⟩
  have hup := T.up
  unfold PySem.W.ks_superIn at hup
  rw [hcl] at hup
  refine PySem.W.kxs_getMethod PySem.W.kxs_ValueError e1 (PySem.W.looks_opaque J1.kIn T.opaque_)
    (fun A' Q' E' s' k q => wpAny_bind ((PySem.W.looks_clsIn J1.kIn hcl) A' _ E' s' k (wpAny_pure q))) rfl J1.kIn hup
    (I1.type.andThen (PySem.W.looks_subIn J1.kIn T.isVE)) (PySem.W.ks_ne J1.kIn I1 hcl) (by decide) ?_
  have gu : (h1.push (mwrap a)).get? h1.objs.size = some (mwrap a) := Heap.get?_push_at rfl rfl
  have J2 : Inv X pins σ H ⟨h1.push (mwrap a), g, d, t + 1, os⟩ := J1.kept (t' := t + 1) fun b o z => Heap.get?_push_of_some _ z
  have J3 : Inv X ((h1.objs.size, mwrap a) :: pins) σ H ⟨h1.push (mwrap a), g, d, t + 1, os⟩ := J2.pins_of fun p hp => by
    rcases List.mem_cons.mp hp with rfl | hp
    · refine ⟨gu, J1.hok.fresh (Nat.le_refl _), fun z => ?_, J1.nofs (Nat.le_refl _), fun v z => by cases z⟩
      have z' : h1.objs.size = X.env.locals := z
      have y := J1.lt
      rw [← z'] at y
      exact absurd y (Nat.lt_irrefl _)
    · exact J2.pin p (List.mem_append_right _ hp)
  show wpAny _ _ (callWith p3 (.ref h1.objs.size) [] (backTo p3 (starEach [e] X.env)) []) _ _ _
  have hq' : tCons te tNil σ H fun xs H1 => xs.length ≤ 1 ∧ H1 a = some (exo a C none) ∧ Q H1 := hq
  rw [hse]
  refine PySem.W.kxs_callWith (i := "ValueError.__init__") (x := a) (by rfl) ?_
  refine Calls.evalArgs_plain ?_
  have pr := (pa_cons he pa_nil hse).run p3 _ _ σ H _ J3 hq'
  rw [hse] at pr
  refine thn pr fun us s2 hh => ?_
  obtain ⟨xs, H2, I2, r2, hx1, ha2, hQ2⟩ := hh
  have gw := (I2.pin (h1.objs.size, mwrap a) (List.mem_append_right _ List.mem_cons_self)).1
  refine ⟨gw, ?_⟩
  obtain ⟨t2, hga2⟩ := exo_at I2.hok ha2
  obtain ⟨hp2, g2, d2, tk2, os2⟩ := s2
  have hul : us.length ≤ sizeLine := by
    rw [← r2.length, sizeLine_eq]
    omega
  refine call_wrap (us := us) (I2.kIn _ _ hC) hga2 gw hul fun h3 t3 k3' e3 => ?_
  have J4 := I2.write (t' := tk2) (x := a) (e := a) (o := exo a C none) (by rw [ha2]; exact True.intro) (.inl rfl) k3' ⟨_, e3⟩ (exo_ok e3)
  have eu : upd H2 a (exo a C none) = H2 := by
    funext b
    by_cases hb : b = a
    · rw [hb, upd_same, ha2]
    · exact upd_ne hb
  rw [eu] at J4
  exact ⟨H2, J4.pins_of fun p hp => J4.pin p (List.mem_append_right _ (List.mem_cons_of_mem _ hp)), hQ2⟩
end

/-! ### the making of an own error, as a promise -/
/-- at a an exception of the class at C is being made; the argument v goes to the field fl -/
def spErr (C : Addr) (fl : Str) (ok : V → Prop) : Sp := fun vs H Q _ => ∃ (a : Addr) (v : V), vs = [.ref a, v] ∧ H a = some (exo a C none) ∧ ok v ∧
  ∀ dx, H dx = none → dx ≠ a → Q .non (upd (upd H dx (exd dx [(fl, v)])) a (exo a C (some dx)))

def okInt : V → Prop := fun v => ∃ i : Int, v = .int i ∧ i.natAbs.log2 < 1920
def okTxt : V → Prop := fun v => ∃ y : Str, v = .str y ∧ (reprText y).length ≤ 10000

section
variable {P : Program} {w : World} {K : PySem.W.Frag} {mg : Str → Option Value} {base : Heap} {C f cda cc : Addr} {qual pn : Str} {st : Stmt} {N : List Str}

abbrev supNF (qual : Str) (st : Stmt) (cda cc : Addr) : NF := ⟨"__init__", qual, defArgs st, defBody st, defScope st, [("__class__", cc)], cda⟩

/-- a def that closes over __class__ alone, entered: its body runs in the frame of NdefX -/
theorem sup_fn {CX : CXT} {sp : Sp} {k : Nat} {ps : List Str} (T : ErrTxt P K mg C f cda cc qual st) (S : NScope N ps ["__class__"] (defScope st))
    (len : ∀ vs H Q E, sp vs H Q E → vs.length = ps.length)
    (hb : ∀ (oc : Value) (od an : Option Addr) (kV doc pm ct : Value) (us : List Value), us.length = ps.length →
      bindArgs (PySem.W.fnX "__init__" qual (defArgs st) (defBody st) (defScope st) [("__class__", cc)] .none kV doc pm an (.ref cda) ct) ⟨us, []⟩ = pure (ps.zip us))
    (hbody : ∀ (A : Around) (outer : List Env) (s : Shared) (H : Hp) (vs : List V) (Q : VK) (E : XK), sp vs H Q E → Room k (ncx CX P w K mg base N (supNF qual st cda cc) f A outer s H E).A →
      ∀ s1, L2.Inv (ncx CX P w K mg base N (supNF qual st cda cc) f A outer s H E) [] (startF N vs [none]) H s1 →
        _root_.PySem.wpAt (model P w) (ncx CX P w K mg base N (supNF qual st cda cc) f A outer s H E).A (.func (defBody st) (ncx CX P w K mg base N (supNF qual st cda cc) f A outer s H E).env)
          (execs (defBody st) (ncx CX P w K mg base N (supNF qual st cda cc) f A outer s H E).env)
          (SP (ncx CX P w K mg base N (supNF qual st cda cc) f A outer s H E) [] { nx := fun _ H' => Q .non H', rt := Q })
          (ncx CX P w K mg base N (supNF qual st cda cc) f A outer s H E).xe s1) :
    ∃ fd, FnOk P w K mg base CX (k + 1) f fd ps sp ∧ Binds K fd ps [] := by
  obtain ⟨oc, od, an, kV, doc, pm, ct, osl, lf⟩ := T.fn
  obtain ⟨oc2, lcell, dcell⟩ := T.cell
  refine ⟨_, ⟨len, fun A outer s H args us vs Q E hr e0 hbd r hsp => ?_⟩, Binds.all (hb oc od an kV doc pm ct)⟩
  have hl := len _ _ _ _ hsp
  have KX : K.In s.heap := e0.mod.kin.keeps fun b o e => (e0.bs b o e).1
  have lim : s.heap.NoLimit := e0.mod.nolimit.keeps fun b o e => (e0.bs b o e).1
  have hH : H cc = none := (e0.bs cc oc2 (e0.mod.kin _ _ lcell)).2
  have CA : CellsAt [("__class__", cc)] ["__class__"] [none] s.heap H := {
    len := rfl
    all := fun y c h => by
      have h' : (if y = ("__class__" : Str) then some cc else none) = some c := by
        by_cases e : y = ("__class__" : Str)
        · subst e; exact h
        · have q : (y == ("__class__" : Str)) = false := by simpa using e
          have z : List.lookup y [(("__class__" : Str), cc)] = none := by simp [List.lookup, q]
          rw [z] at h; cases h
      split at h'
      · cases h'
        exact ⟨hH, some (.ref C), oc2, KX _ _ lcell, dcell⟩
      · cases h'
    inj := fun x y c h1 h2 => by
      have key : ∀ z : Str, List.lookup z [(("__class__" : Str), cc)] = some c → z = "__class__" := fun z hz => by
        by_cases e : z = ("__class__" : Str)
        · exact e
        · have q : (z == ("__class__" : Str)) = false := by simpa using e
          have w : List.lookup z [(("__class__" : Str), cc)] = none := by simp [List.lookup, q]
          rw [w] at hz; cases hz
      exact (key x h1).trans (key y h2).symm
    has := fun i y h => by
      match i, h with
      | 0, h =>
        have e : ("__class__" : Str) = y := Option.some.inj h
        subst e
        exact ⟨cc, by simp [List.lookup], fun v z => by cases z⟩
      | i + 1, h => cases h }
  refine ks_codeAny_call_defAt (binds := ps.zip us) hr.depth (KX _ _ lf) rfl lim (PySem.W.codeRec_of KX T.code) rfl hbd S.nocell (fun ⟨n, _⟩ hy => S.par n (List.of_mem_zip hy).1) (fun h1 hns kp => ?_) S.co S.gen S.kind
  have I : L2.Inv (ncx CX P w K mg base N (supNF qual st cda cc) f A outer s H E) [] (startF N vs [none]) H { s with heap := h1, toks := s.toks + (ps.zip us).length } :=
    inv_startN S hr.hd e0 hl r CA hns kp
  refine _root_.PySem.wpAt_mono (hbody A outer s H vs Q E hsp (hr.deeper _) _ I) (fun fl s' hs => ?_) fun e s' hs => hs
  cases fl with
  | ret u =>
    obtain ⟨v, σ', H', J, rv, q⟩ := hs
    exact ⟨v, H', J.os, J.bare, J.base, J.hok, rv, q⟩
  | next =>
    obtain ⟨σ', H', J, q⟩ := hs
    exact ⟨V.non, H', J.os, J.bare, J.base, J.hok, rfl, q⟩
  | brk =>
    obtain ⟨_, _, _, q⟩ := hs
    exact False.elim q
  | cont =>
    obtain ⟨_, _, _, q⟩ := hs
    exact False.elim q
end

section
variable {P : Program} {w : World} {K : PySem.W.Frag} {mg : Str → Option Value} {base : Heap} {C f cda cc : Addr} {qual pn : Str} {st : Stmt} {N : List Str}

/-- the body: super().__init__(e), then one statement more -/
theorem two_run {X : Cx} {σ : L2.St} {H : Hp} {s : Shared} {a : Addr} {e : Expr} {te : TE} {t2 : TS} {st2 : Stmt} {body : List Stmt} {p0 p1 p2 p3 p4 : Pos} {scope : Scope} {ar : Arg} {D : Ends}
    (T : ErrTxt X.prog X.K X.mg C f cda cc qual st) (I : L2.Inv X [] σ H s)
    (henv : X.env = PySem.W.envX qual scope X.env.locals f (.ref cda) [("__class__", cc)])
    (hks : scope.names.lookup ("super" : Str) = some .globalImplicit) (hkc : scope.names.lookup ("__class__" : Str) = some .free)
    (hka : scope.names.lookup ar.arg = some .local)
    (har : ((defArgs st).posonlyargs ++ (defArgs st).args).head? = some ar)
    (h0 : X.N[0]? = some ar.arg) (hs0 : σ[0]? = some (some (V.ref a))) (ha : H a = some (exo a C none))
    (he : PE X e te) (h2 : PS X st2 t2) (hq : te σ H fun x H1 => [x].length ≤ 1 ∧ H1 a = some (exo a C none) ∧ t2 D σ H1) {pl : Sem Bool}
    (hform : eval (.Call (.Attribute (.Call (.Name "super" p0) [] [] p1) "__init__" p2) [e] [] p3) X.env = (do
      let ov ← attributeBase (.Call (.Name "super" p0) [] [] p1) "__init__" X.env (eval (.Call (.Name "super" p0) [] [] p1) X.env)
      standAt p2.atName
      let (g, first) ← holding [ov] (getMethod ov "__init__" pl)
      callWith p3 g first (backTo p3 (starEach [e] X.env)) []) := by rfl)
    (hse : starEach [e] X.env = (false, eval e X.env) :: starEach [] X.env := by rfl) (hi : interactive X.env = false := by rfl) :
    _root_.PySem.wpAt (model X.prog X.w) X.A (.func body X.env)
      (execs [.Expr (.Call (.Attribute (.Call (.Name "super" p0) [] [] p1) "__init__" p2) [e] [] p3) p4, st2] X.env) (SP X [] D) X.xe s := by
  refine ks_wpAt_execs_cons (ks_wpAt_Expr_any ?_ hi)
  refine _root_.PySem.wpAt_mono (super_init (Q := fun H1 => t2 D σ H1) T I henv hks hkc hka har h0 hs0 ha he hq hform hse) (fun v s' hh => ?_) fun _ _ z => z
  obtain ⟨H1, I1, q⟩ := hh
  exact _root_.PySem.wpAt_of_wpAny ((pss_one h2).run [] s' σ H1 D I1 q)

theorem form_of (env : Env) {p0 p1 p2 p3 q4 : Pos} {ps : List Expr} (hln : (p2.endLine == p3.line) = true) : eval (.Call (.Attribute (.Call (.Name "super" p0) [] [] p1) "__init__" p2) [.JoinedStr ps q4] [] p3) env = (do
      let ov ← attributeBase (.Call (.Name "super" p0) [] [] p1) "__init__" env (eval (.Call (.Name "super" p0) [] [] p1) env)
      standAt p2.atName
      let (g, first) ← holding [ov] (getMethod ov "__init__" (do return (← importBound (.Call (.Name "super" p0) [] [] p1) env).getD true))
      callWith p3 g first (backTo p3 (starEach [.JoinedStr ps q4] env)) []) := by
  have hp : methodCallPos true (.Call (.Name "super" p0) [] [] p1) env p2 p3 = pure p3 := by
    unfold methodCallPos
    rw [hln]
    rfl
  show (do
    let ov ← attributeBase (.Call (.Name "super" p0) [] [] p1) "__init__" env (eval (.Call (.Name "super" p0) [] [] p1) env)
    standAt p2.atName
    let (g, first) ← holding [ov] (getMethod ov "__init__" (do return (← importBound (.Call (.Name "super" p0) [] [] p1) env).getD true))
    let cp ← methodCallPos true (.Call (.Name "super" p0) [] [] p1) env p2 p3
    callWith cp g first (backTo p3 (starEach [.JoinedStr ps q4] env)) []) = _
  rw [hp]
  rfl
theorem lit_small {lit : Str} (hl : lit.length ≤ 1000) : (Str.empty ++ lit).length ≤ 1000 := by
  rw [Str.length_append]
  exact Nat.le_trans (Nat.le_of_eq (Nat.zero_add _)) hl
theorem err_int {lit : Str} {j : Nat} {q1 q2 q3 q4 p0 p1 p2 p3 p4 r1 r2 r3 r4 : Pos} {ar : Arg} (T : ErrTxt P K mg C f cda cc qual st)
    (hbd : defBody st = [.Expr (.Call (.Attribute (.Call (.Name "super" p0) [] [] p1) "__init__" p2) [.JoinedStr [.Constant (.str lit) j q1, .FormattedValue (.Name pn q2) (-1) none q3] q4] [] p3) p4,
      .Assign [.Attribute (.Name "self" r1) pn r2] (.Name pn r3) r4]) (hln : (p2.endLine == p3.line) = true)
    (S : NScope ["self", pn, "__class__"] ["self", pn] ["__class__"] (defScope st))
    (hb : ∀ (oc : Value) (od an : Option Addr) (kV doc pm ct : Value) (us : List Value), us.length = 2 →
      bindArgs (PySem.W.fnX "__init__" qual (defArgs st) (defBody st) (defScope st) [("__class__", cc)] .none kV doc pm an (.ref cda) ct) ⟨us, []⟩ = pure ((["self", pn] : List Str).zip us))
    (hks : (defScope st).names.lookup ("super" : Str) = some .globalImplicit)
    (har : ((defArgs st).posonlyargs ++ (defArgs st).args).head? = some ar) (har2 : ar.arg = "self")
    (hd1 : (pn == ("__debug__" : Str)) = false) (hd2 : (pn == ("__classdict__" : Str)) = false)
    (hlit : lit.length ≤ 1000) (hno : PySem.W.findIn K (.ref C) pn = some none) :
    ∃ fd, FnOk P w K mg base CX0 2 f fd ["self", pn] (spErr C pn okInt) ∧ Binds K fd ["self", pn] [] := by
  refine sup_fn T S (fun vs H Q E h => ?_) hb fun A outer s H vs Q E hsp hroom s1 I => ?_
  · obtain ⟨a, v, rfl, _⟩ := h
    rfl
  · obtain ⟨a, v, rfl, ha, ⟨i, rfl, hi⟩, hQ⟩ := hsp
    have vN : Vis (ncx CX0 P w K mg base ["self", pn, "__class__"] (supNF qual st cda cc) f A outer s H E).env.scope pn := .inl (S.par _ (by simp))
    have vS : Vis (ncx CX0 P w K mg base ["self", pn, "__class__"] (supNF qual st cda cc) f A outer s H E).env.scope "self" := .inl (S.par _ (by simp))
    rw [hbd]
    refine two_run (te := fun σ H Q => tJs [tC (.str lit), tFmt (tVar 1)] Str.empty σ H fun out H1 => Q (.str out) H1) T I rfl hks (S.frk _ (by simp)) (by rw [har2]; exact S.par _ (by simp)) har (by rw [har2]; rfl) rfl ha
      (pe_joined (.cons pe_str (.cons (pe_fmt (pe_var (i := 1) rfl vN hd1 hd2)) .nil)))
      (ps_ost (pe_var (i := 0) rfl vS) (pe_var (i := 1) rfl vN hd1 hd2)) ?_ (form_of _ hln) (by rfl) (by show ((defScope st).kind == _ && _) = false; rw [S.kind]; rfl)
    have e0 := lit_small hlit
    have e1 := int_text_length_le (k := 1920) (by decide) hi
    refine ⟨lit, rfl, by rw [sizeLine_eq]; omega, _, rfl, .inr ⟨i, rfl, hi, Str.ofString (toString i), rfl, ?_, Nat.le_refl _, ha, ?_⟩⟩
    · rw [Str.length_append, PySem.ofString_length, sizeLine_eq]
      omega
    · exact ⟨_, rfl, _, rfl, a, C, rfl, T.oex, hno, .inl ⟨ha, fun dx h1 h2 => hQ dx h1 h2⟩⟩
/-- the same where the argument is a text, shown by its repr -/
theorem err_txt {lit : Str} {j : Nat} {q1 q2 q3 q4 p0 p1 p2 p3 p4 r1 r2 r3 r4 : Pos} {ar : Arg} (T : ErrTxt P K mg C f cda cc qual st)
    (hbd : defBody st = [.Expr (.Call (.Attribute (.Call (.Name "super" p0) [] [] p1) "__init__" p2) [.JoinedStr [.Constant (.str lit) j q1, .FormattedValue (.Name pn q2) 114 none q3] q4] [] p3) p4,
      .Assign [.Attribute (.Name "self" r1) pn r2] (.Name pn r3) r4]) (hln : (p2.endLine == p3.line) = true)
    (S : NScope ["self", pn, "__class__"] ["self", pn] ["__class__"] (defScope st))
    (hb : ∀ (oc : Value) (od an : Option Addr) (kV doc pm ct : Value) (us : List Value), us.length = 2 →
      bindArgs (PySem.W.fnX "__init__" qual (defArgs st) (defBody st) (defScope st) [("__class__", cc)] .none kV doc pm an (.ref cda) ct) ⟨us, []⟩ = pure ((["self", pn] : List Str).zip us))
    (hks : (defScope st).names.lookup ("super" : Str) = some .globalImplicit)
    (har : ((defArgs st).posonlyargs ++ (defArgs st).args).head? = some ar) (har2 : ar.arg = "self")
    (hd1 : (pn == ("__debug__" : Str)) = false) (hd2 : (pn == ("__classdict__" : Str)) = false)
    (hlit : lit.length ≤ 1000) (hno : PySem.W.findIn K (.ref C) pn = some none) :
    ∃ fd, FnOk P w K mg base CX0 2 f fd ["self", pn] (spErr C pn okTxt) ∧ Binds K fd ["self", pn] [] := by
  refine sup_fn T S (fun vs H Q E h => ?_) hb fun A outer s H vs Q E hsp hroom s1 I => ?_
  · obtain ⟨a, v, rfl, _⟩ := h
    rfl
  · obtain ⟨a, v, rfl, ha, ⟨y, rfl, hy⟩, hQ⟩ := hsp
    have vN : Vis (ncx CX0 P w K mg base ["self", pn, "__class__"] (supNF qual st cda cc) f A outer s H E).env.scope pn := .inl (S.par _ (by simp))
    have vS : Vis (ncx CX0 P w K mg base ["self", pn, "__class__"] (supNF qual st cda cc) f A outer s H E).env.scope "self" := .inl (S.par _ (by simp))
    rw [hbd]
    refine two_run (te := fun σ H Q => tJs [tC (.str lit), tFmtR (tVar 1)] Str.empty σ H fun out H1 => Q (.str out) H1) T I rfl hks (S.frk _ (by simp)) (by rw [har2]; exact S.par _ (by simp)) har (by rw [har2]; rfl) rfl ha
      (pe_joined (.cons pe_str (.cons (pe_fmtR (pe_var (i := 1) rfl vN hd1 hd2)) .nil)))
      (ps_ost (pe_var (i := 0) rfl vS) (pe_var (i := 1) rfl vN hd1 hd2)) ?_ (form_of _ hln) (by rfl) (by show ((defScope st).kind == _ && _) = false; rw [S.kind]; rfl)
    have e0 := lit_small hlit
    refine ⟨lit, rfl, by rw [sizeLine_eq]; omega, _, rfl, .inl ⟨y, rfl, by rw [sizeLine_eq]; omega, reprText y, rfl, ?_, Nat.le_refl _, ha, ?_⟩⟩
    · rw [Str.length_append, sizeLine_eq]
      omega
    · exact ⟨_, rfl, _, rfl, a, C, rfl, T.oex, hno, .inl ⟨ha, fun dx h1 h2 => hQ dx h1 h2⟩⟩
end

/-! ### an own error, ready to be raised and caught -/
structure ErrOk (P : Program) (w : World) (K : PySem.W.Frag) (mg : Str → Option Value) (base : Heap) (nm : Str) (C : Addr) (fl : Str) (ok : V → Prop) : Prop where
  oex : OexC K C
  xf : XfC K C
  g : mg nm = some (.ref C)
  no : PySem.W.findIn K (.ref C) fl = some none
  te : PySem.W.exmOne K (.ref C) (.ref C) = some true
  run : ∃ (f : Addr) (fd : FuncData), PySem.W.findIn K (.ref C) "__init__" = some (some (.ref f)) ∧ PySem.W.typeIn K (.ref f) = some (.type "function") ∧
    FnOk P w K mg base CX0 2 f fd ["self", fl] (spErr C fl ok) ∧ Binds K fd ["self", fl] []

section
variable {X : Cx} {nm : Str} {C : Addr} {fl : Str} {ok : V → Prop} {e : Expr} {ta : TA} {p pos pos2 : Pos} {W : WX}
/-- raise nm(e) -/
def tErr (C : Addr) (fl : Str) (ok : V → Prop) (ta : TA) (W : WX) : TS := fun _ σ H => tMkO C (spErr C fl ok) [] ta σ H fun cls d H' => W cls d σ H'
theorem ps_err (R : ErrOk X.prog X.w X.K X.mg X.base nm C fl ok) (hc : X.calm = true) (tk : Takes X W) (hr : Room 3 X.A) (ha : PA X [e] ta) (hg : Gl X nm)
    (hdb : (nm == ("__debug__" : Str)) = false := by decide) (he : starEach [e] X.env = (false, eval e X.env) :: starEach [] X.env := by rfl) (hpl : (backTo pos (starEach [] X.env)).any (·.1) = false := by rfl) :
    PS X (.Raise (some (.Call (.Name nm p) [e] [] pos)) none pos2) (tErr C fl ok ta W) := by
  obtain ⟨f, fd, h1, h2, h3, h4⟩ := R.run
  exact ps_raise hc tk (pmk_oex R.oex h1 h2 h3 hr h4 .nil pass0 hg R.g ha hdb he hpl)
/-- what such a raise asks: the argument is fit, and every way out is met -/
theorem err_way {H1 : Hp} {v : V} {Q : XK} (hv : ok v) (h : ∀ d, H1 d = none → Q (.ref C) (some d) (upd H1 d (.xd [(fl, v)]))) :
    [v].length ≤ 1000 ∧ ∀ a, H1 a = none → spErr C fl ok (.ref a :: ([v] ++ [])) (upd H1 a (exo a C none))
      (fun r H2 => r = .non ∧ ∃ (d : Addr) (fs : List (Str × V)), H2 a = some (exo a C (some d)) ∧ H2 d = some (exd d fs) ∧ H1 d = none ∧ Q (.ref C) (some d) (upd (del H2 a) d (.xd fs))) (fun _ _ _ => False) := by
  refine ⟨by show 1 ≤ 1000; omega, fun a hn => ⟨a, v, rfl, upd_same, hv, fun dx hdx hne => ⟨rfl, dx, _, upd_same, by rw [upd_ne hne, upd_same], ?_, ?_⟩⟩⟩
  · rw [upd_ne hne] at hdx
    exact hdx
  · have hd1 : H1 dx = none := by
      rw [upd_ne hne] at hdx
      exact hdx
    have e : upd (del (upd (upd (upd H1 a (exo a C none)) dx (exd dx [(fl, v)])) a (exo a C (some dx))) a) dx (.xd [(fl, v)]) = upd H1 dx (.xd [(fl, v)]) := by
      funext b
      by_cases hb : b = dx
      · rw [hb, upd_same, upd_same]
      · rw [upd_ne hb, upd_ne hb]
        by_cases hba : b = a
        · rw [hba, del_same, hn]
        · rw [del_ne hba, upd_ne hba, upd_ne hb, upd_ne hba]
    rw [e]
    exact h dx hd1
end
end Sup

/-! Operators, repr and call of instances of own classes. -/
namespace Own
open PySem PySem.Spec PyProof.Rows L2
section
variable {X : Cx} {CX : CXT} {k : Nat} {C g : Addr} {sp : Sp} {E : XK} {pins : List (Addr × Obj)} {σ : L2.St} {H : Hp} {s : Shared}
theorem not_ni {v : V} {u : Value} (r : RelV v u) : u ≠ .notImplemented := fun z => by
  subst z
  cases v <;> first | (cases r; done) | (obtain ⟨_, z⟩ := r; cases z; done) | (obtain ⟨_, z⟩ := r; nomatch z)
theorem back {Q : VK} {u : Value} {s' : Shared} (h : EP X pins σ Q u s') : PySem.W.CmpBack (EP X pins σ Q) u s' := by
  obtain ⟨v, H', I', rv, q⟩ := id h
  have n := not_ni rv
  cases u <;> first | exact h | exact absurd rfl n
/-- a promise of an own method, asked at other surroundings with the same frames -/
theorem run_at {A : Around} {Q : VK} {us : List Value} {vs : List V} (F : FnR X.prog X.w X.K X.mg X.base CX k g sp) (hr : Room k A) (hfr : A.frames = some X.stack) (hx : Passes CX X E) (I : Inv X pins σ H s) (r : Vals vs us) (h : sp vs H Q E) :
    wpAny (model X.prog X.w) A (call (.ref g) us) (EP X pins σ Q) X.xe s := by
  have e0 : Env0 X.prog X.w X.K X.mg X.base A X.stack s H := by
    have e := I.env0
    exact ⟨hfr, e.mod, e.bs, e.bsz, e.funs, e.frf, e.hok, e.bare⟩
  refine wpAny_call (codeAny_mono (F A X.stack s H us vs Q E hr e0 r h) fun r s' hq => ?_)
  cases r with
  | error e => exact hx pins σ H s e s' I hq
  | ok fl =>
    cases fl with
    | ret u => exact I.after hq
    | next => exact False.elim hq
    | brk => exact False.elim hq
    | cont => exact False.elim hq
/-- two instances of the class at C, and what the operator's def promises of them -/
def rOwn (C : Addr) (sp : Sp) (E : XK) : R2 := fun x y H Q => ∃ a b dx dy fs gs, x = .ref a ∧ y = .ref b ∧ H a = some (.ins C dx fs) ∧ H b = some (.ins C dy gs) ∧ sp [.ref a, .ref b] H Q E
theorem op_cmp {op : CmpOp} (hop : ∀ v u, compareOp op v u = richCompare op v u) (F : FnR X.prog X.w X.K X.mg X.base CX k g sp) (hs : PySem.W.findIn X.K (.ref C) (cmpInfo op).2.1 = some (some (.ref g))) (hf : PySem.W.isFn X.K (.ref g) = true)
    (hr : Room k X.A) (hx : Passes CX X E) : OpR X (compareOp op) (rOwn C sp E) := by
  intro pins s σ H x y v u Q I rx ry h
  obtain ⟨a, b, dx, dy, fs, gs, rfl, rfl, ha, hb, hsp⟩ := h
  cases rx
  cases ry
  obtain ⟨mA, J, _⟩ := ins_get I.hok ha
  obtain ⟨mB, J', _⟩ := ins_get I.hok hb
  obtain ⟨od, J, _⟩ := J.look
  obtain ⟨od', J', _⟩ := J'.look
  obtain ⟨m, hF⟩ := I.fr
  rw [hop]
  refine PySem.W.cmp_K (op := op) (tb := .ref C) hr.units0 hF I.ok.mod.kin J J'.type (by simp [PySem.W.notFirst]) hs hf ?_
  exact wpAny_mono (wpAny_call (run_fnR F hr hx I (us := [.ref a, .ref b]) (vs := [.ref a, .ref b]) (.cons rfl (.cons rfl .nil)) hsp)) (fun _ _ z => back z) fun _ _ z => z
theorem op_bin {op : Operator} (hop : ∀ v u : Value, PySem.binaryOp op v u = PySem.binaryOp op v u) (F : FnR X.prog X.w X.K X.mg X.base CX k g sp) (hs : PySem.W.findIn X.K (.ref C) (PySem.dunder op.info.2) = some (some (.ref g))) (hf : PySem.W.isFn X.K (.ref g) = true)
    (hc : PySem.W.selfFirst X.K C = true) (hr : Room k X.A) (hx : Passes CX X E) : OpR X (PySem.binaryOp op) (rOwn C sp E) := by
  intro pins s σ H x y v u Q I rx ry h
  obtain ⟨a, b, dx, dy, fs, gs, rfl, rfl, ha, hb, hsp⟩ := h
  cases rx
  cases ry
  obtain ⟨mA, J, _⟩ := ins_get I.hok ha
  obtain ⟨mB, J', _⟩ := ins_get I.hok hb
  obtain ⟨od, J, _⟩ := J.look
  obtain ⟨od', J', _⟩ := J'.look
  obtain ⟨m, hF⟩ := I.fr
  refine PySem.W.binop_K (op := op) hF I.ok.mod.kin J J'.type hc hs hf ?_
  exact wpAny_mono (wpAny_call (run_fnR F hr hx I (us := [.ref a, .ref b]) (vs := [.ref a, .ref b]) (.cons rfl (.cons rfl .nil)) hsp)) (fun _ _ z => back z) fun _ _ z => z
/-- repr of an instance -/
def rRepr (C : Addr) (sp : Sp) (E : XK) : List V → Hp → VK → Prop := fun xs H Q => ∃ a dx fs, xs = [.ref a] ∧ H a = some (.ins C dx fs) ∧ sp [.ref a] H (fun v H' => ∃ y, v = .str y ∧ Q v H') E
theorem call_repr (F : FnR X.prog X.w X.K X.mg X.base CX k g sp) (hs : PySem.W.findIn X.K (.ref C) "__repr__" = some (some (.ref g))) (hf : PySem.W.isFn X.K (.ref g) = true)
    (hr : Room (k + 1) X.A) (hx : Passes CX X E) : CallR X (.builtin "repr") (rRepr C sp E) := by
  intro pins s σ H xs us Q I r h
  obtain ⟨a, dx, fs, rfl, ha, hsp⟩ := h
  obtain ⟨u, rfl, r1⟩ : ∃ u, us = [u] ∧ RelV (.ref a) u := by
    cases r with
    | cons r1 rr =>
      cases rr
      exact ⟨_, rfl, r1⟩
  cases r1
  obtain ⟨mA, J, _⟩ := ins_get I.hok ha
  obtain ⟨od, J, _⟩ := J.look
  obtain ⟨m, hF⟩ := I.fr
  refine PySem.W.repr_K ?_ hF I.ok.mod.kin J hs hf (wpAny_mono (run_at F ?_ ?_ hx I (us := [.ref a]) (vs := [.ref a]) (.cons rfl .nil) hsp) (fun u s' z => ?_) fun _ _ z => z)
  · have := hr.un
    show X.A.units + 1 < _
    omega
  · exact hr.in1
  · exact I.env0.frames
  · obtain ⟨v, H', I', rv, y, rfl, q⟩ := z
    obtain ⟨t, rfl⟩ := rv
    exact ⟨.str y, H', I', ⟨t, rfl⟩, q⟩
/-! ### != by the own == -/
theorem ifBound_B {M : Model} {A : Around} {Er : Value → Shared → Prop} {s : Shared} {K : PySem.W.Frag} {x C : Addr} {ox : Obj} {od : Option Obj} {name : Str} {id : String} {args : List Value} {Q : Option Value → Shared → Prop} (X : K.In s.heap) (I : PySem.W.InstAt s.heap x ox C od)
    (hs : PySem.W.findIn K (.ref C) name = some (some (.builtin id))) (hb : ∀ self, bindSpecial (.builtin id) self = pure (.builtin id, [self]))
    (h : wpAny M A (call (.builtin id) (.ref x :: args)) (fun v => Q (some v)) Er s) : wpAny M A (callSpecialIfBound? (.ref x) name args) Q Er s := by
  simp only [callSpecialIfBound?, bindSpecialIfBound?]
  refine wpAny_holding (wpAny_bind (wpAny_bind (wpAny_bind (I.type.here ((PySem.W.looks_findIn X hs).here ?_)))))
  refine wpAny_bind (wpAny_askSetting (wpAny_ite ?_))
  have fin : wpAny M A (call (.builtin id) ([.ref x] ++ args) >>= fun v => pure (some v)) Q Er s := wpAny_bind (wpAny_mono h (fun v s' h' => wpAny_pure h') fun _ _ h' => h')
  split
  · exact wpAny_bind ((PySem.W.Looks.of_pure (hb _)).here (wpAny_pure (by exact fin)))
  · exact wpAny_tryCatch (wpAny_bind ((PySem.W.Looks.of_pure (hb _)).here (wpAny_pure (by exact fin))))
def rOwnNe (C : Addr) (sp : Sp) (E : XK) : R2 := fun x y H Q => ∃ a b dx dy fs gs, x = .ref a ∧ y = .ref b ∧ H a = some (.ins C dx fs) ∧ H b = some (.ins C dy gs) ∧ sp [.ref a, .ref b] H (fun v H' => ∃ t, v = .bl t ∧ Q (.bl (!t)) H') E
theorem op_ne (F : FnR X.prog X.w X.K X.mg X.base CX k g sp) (hs : PySem.W.findIn X.K (.ref C) "__eq__" = some (some (.ref g))) (hn : PySem.W.findIn X.K (.ref C) "__ne__" = some (some (.builtin "object.__ne__"))) (hm : PySem.W.mroIn X.K C (.type "object") = some true)
    (hf : PySem.W.isFn X.K (.ref g) = true) (hr : Room (k + 1) X.A) (hx : Passes CX X E) : OpR X (compareOp .NotEq) (rOwnNe C sp E) := by
  intro pins s σ H x y v u Q I rx ry h
  obtain ⟨a, b, dx, dy, fs, gs, rfl, rfl, ha, hb, hsp⟩ := h
  cases rx
  cases ry
  obtain ⟨mA, J, _⟩ := ins_get I.hok ha
  obtain ⟨mB, J', _⟩ := ins_get I.hok hb
  obtain ⟨od, J, _⟩ := J.look
  obtain ⟨od', J', _⟩ := J'.look
  have KI := I.kIn
  have hu1 : X.A.in1.units < cLine := by
    have := hr.un
    show X.A.units + 1 < _
    omega
  have one : wpAny (model X.prog X.w) X.A (tryCompare (.ref a) (cmpInfo .NotEq).2.1 (.ref b)) (fun r s' => ∃ v, r = some v ∧ EP X pins σ Q v s') X.xe s := by
    unfold tryCompare
    refine wpAny_bind (ifBound_B KI J hn PySem.F.cmp_object.ne.bind (wpAny_call (codeAny_call_builtin PySem.F.cmp_object.ne.plain PySem.F.cmpEntry_ne
      (PySem.W.check_slot PySem.F.cmpKind_ne PySem.F.cmpSplit_ne (J.type.andThen (PySem.W.looks_mroIn KI hm)) (PySem.F.cmpArgs_ne _ _) ?_))))
    unfold Builtin.«object.__ne__»
    refine wpAny_bind (m := slotArgs "__ne__" 1 _) (wpAny_pure ?_)
    refine wpAny_bind (m := cRoomFor _ _) (wpAny_cRoomFor hu1 ?_)
    refine wpAny_bind (m := callSpecialIfBound? (.ref a) (Str.ofString "__eq__") _) (PySem.W.ifBound_K KI J hs hf (wpAny_mono (run_at F hr.in1 I.env0.frames hx I (us := [.ref a, .ref b]) (vs := [.ref a, .ref b]) (.cons rfl (.cons rfl .nil)) hsp) (fun u s' z => ?_) fun _ _ z => z))
    obtain ⟨v, H', I', rv, t, rfl, q⟩ := z
    cases rv
    refine wpAny_bind (m := truthy (.bool t)) (wpAny_truthy_bool ?_)
    first
      | exact wpAny_pure (wpAny_pure ⟨_, rfl, .bl (!t), H', I', rfl, q⟩)
      | exact wpAny_pure ⟨_, rfl, .bl (!t), H', I', rfl, q⟩
  show wpAny _ _ (richCompare .NotEq (.ref a) (.ref b)) _ _ _
  unfold richCompare
  simp only [PySem.oneThing_ref]
  refine wpAny_holding (wpAny_bind (wpAny_cRoomFor hr.units0 ?_))
  refine wpAny_bind (J.type.here (wpAny_bind (J'.type.here ?_)))
  rw [if_neg (by simp)]
  refine wpAny_bind (wpAny_pure ?_)
  simp only [Bool.false_eq_true, if_false]
  refine wpAny_bind (wpAny_mono one (fun r s' z => ?_) fun _ _ e => e)
  obtain ⟨v, rfl, hq⟩ := z
  exact wpAny_pure hq
end
/-! ### a def that returns NotImplemented -/
section
variable {P : Program} {w : World} {K : PySem.W.Frag} {mg : Str → Option Value} {base : Heap}
/-- on values of which pre holds the def at f returns NotImplemented and changes nothing -/
def NiOk (P : Program) (w : World) (K : PySem.W.Frag) (mg : Str → Option Value) (base : Heap) (k : Nat) (f : Addr) (pre : List V → Hp → Prop) : Prop :=
  ∀ (A : Around) (outer : List Env) (s : Shared) (H : Hp) (us : List Value) (vs : List V), Room k A → Env0 P w K mg base A outer s H → Vals vs us → pre vs H →
    codeAny (model P w) A (.call (.ref f) ⟨us, []⟩) (fun r s' => r = .ok (.ret .notImplemented) ∧ CE outer P w H s (fun _ H' => H' = H) .none s') s
theorem ni_def {x qual : Str} {st : Stmt} {f : Addr} {fd : FuncData} {N ps : List Str} {k : Nat} {pre : List V → Hp → Prop} {t : Expr} {els rest : List Stmt} {p2 p3 p4 : Pos} (F : Fun K x qual st f fd) (S : FnScope N ps (defScope st)) (hb : Binds K fd ps [])
    (len : ∀ vs H, pre vs H → vs.length = ps.length) (hbd : defBody st = .If t [.Return (some (.Name "NotImplemented" p2)) p3] els p4 :: rest) (hg : (defScope st).names.lookup ("NotImplemented" : Str) = some .globalImplicit) (hm : mg "NotImplemented" = none)
    (htest : ∀ (cdv : Value) (A : Around) (outer : List Env) (s : Shared) (H : Hp) (vs : List V), Room k (A.deeper (envOfC qual (defScope st) s.heap.objs.size f cdv)) → pre vs H →
      ∃ tt, PT (cxOf CX0 P w K mg base N qual (defScope st) f cdv A outer s H (fun _ _ _ => False)).nox t tt ∧ tt (start N vs) H (fun b H' => b = true ∧ H' = H)) :
    NiOk P w K mg base (k + 1) f pre := by
  intro A outer s H us vs hr e0 r hp
  have hl := len _ _ hp
  have hbind := hb s us (e0.mod.kin.keeps fun b o e => (e0.bs b o e).1) (by rw [List.append_nil, ← r.length]; exact hl)
  rw [List.append_nil] at hbind
  obtain ⟨oc, od, kV, doc, pm, an, cdv, ct, osl, rfl, lk, hcd⟩ := F.ex
  have KX : K.In s.heap := e0.mod.kin.keeps fun b o e => (e0.bs b o e).1
  have lim : s.heap.NoLimit := e0.mod.nolimit.keeps fun b o e => (e0.bs b o e).1
  have hkind : ∀ y ∈ ps.zip us, (defScope st).names.lookup y.1 = some .local ∨ ((defScope st).names.lookup y.1 = some .cell ∧ ((cellsFrom (s.heap.objs.size + 1) (defScope st).names []).lookup y.1).isSome = true) := fun ⟨n, v⟩ hy => by
    rcases S.par n (List.of_mem_zip hy).1 with q | q
    · exact .inl q
    · exact .inr ⟨q, PySem.W.cellsFrom_some _ _ _ (.inl q)⟩
  refine codeAny_call_function hr.depth (KX _ _ lk) rfl S.co S.gen rfl (PySem.W.codeRec_of KX hcd) (hbind _ _ _ _ ?_)
  refine wpAny_newFunctionEnv_cells S.kind hkind fun env he s1 x => ?_
  subst he
  refine ⟨lim.keeps x.toInCall.keep, codeAny_func ?_⟩
  obtain ⟨tt, ht, hq⟩ := htest cdv A outer s H vs (hr.deeper _) hp
  have I : L2.Inv (cxOf CX0 P w K mg base N qual (defScope st) f cdv A outer s H (fun _ _ _ => False)) [] (start N vs) H s1 := inv_start S hr.hd e0 hl r x
  rw [hbd]
  refine wpAny_execs_cons (wpAny_If (wpAny_mono (ht.run [] s1 (start N vs) H _ (I.wish _) hq) (fun b s2 h2 => ?_) fun e s' z => False.elim z))
  obtain ⟨H2, I2, rfl, rfl⟩ := h2
  refine wpAny_execs_cons (wpAny_Return_some (ld_blt I2 hg hm (u := .notImplemented) (by decide +kernel) ?_))
  exact ⟨rfl, .non, _, I2.os, I2.bare, I2.base, I2.hok, rfl, rfl⟩
end
section
variable {X : Cx} {CX : CXT} {k : Nat} {C g : Addr} {sp : Sp} {E : XK} {pre : List V → Hp → Prop}
theorem int_eq_ref (a : Int) (t : Tok) (b C dx : Addr) : Meets (Builtin.«int.__eq__» ⟨[.int a t, .ref b], []⟩) (fun _ R s => s.heap.get? b = some (PySem.W.instObj C dx) ∧ R (.ok (.ret Value.notImplemented)) s) :=
  .of_wp fun prog w A R s h => by
    obtain ⟨hp, g, d, tk, os⟩ := s
    obtain ⟨hl, h⟩ := h
    wp_walk using wpAny_load' hl
    exact ⟨_, rfl, h⟩
/-- an instance == a whole number, where the own == declines -/
def rEqI (C : Addr) (pre : List V → Hp → Prop) : R2 := fun x y H Q => ∃ a dx fs i, x = .ref a ∧ y = .int i ∧ H a = some (.ins C dx fs) ∧ pre [.ref a, .int i] H ∧ Q (.bl false) H
theorem op_eqI (N : NiOk X.prog X.w X.K X.mg X.base k g pre) (hs : PySem.W.findIn X.K (.ref C) "__eq__" = some (some (.ref g))) (hf : PySem.W.isFn X.K (.ref g) = true) (hsub : PySem.W.subIn X.K (.type "int") (.ref C) = some false)
    (hr : Room k X.A) : OpR X (compareOp .Eq) (rEqI C pre) := by
  intro pins s σ H x y v u Q I rx ry h
  obtain ⟨a, dx, fs, i, rfl, rfl, ha, hp, q⟩ := h
  cases rx
  obtain ⟨t, rfl⟩ := ry
  obtain ⟨mA, J, _⟩ := ins_get I.hok ha
  obtain ⟨od, J, _⟩ := J.look
  have KI := I.kIn
  show wpAny _ _ (richCompare .Eq (.ref a) (.int i t)) _ _ _
  unfold richCompare
  simp only [PySem.oneThing_ref]
  refine wpAny_holding (wpAny_bind (wpAny_cRoomFor hr.units0 ?_))
  refine wpAny_bind (J.type.here (wpAny_bind ((PySem.W.Looks.of_pure (M := model X.prog X.w) (h := s.heap) (show typeOf (.int i t) = pure (.type "int") from rfl)).here ?_)))
  have hne : (Value.ref C != Value.type "int") = true := by
    have z : (Value.ref C == Value.type "int") = false := Bool.eq_false_iff.mpr fun q => by cases beq_iff_eq.mp q
    show (!(Value.ref C == Value.type "int")) = true
    rw [z]; rfl
  rw [if_pos hne]
  refine wpAny_bind ((PySem.W.looks_subIn KI hsub).here ?_)
  simp only [Bool.false_eq_true, if_false]
  refine wpAny_bind (m := tryCompare (.ref a) _ (.int i t)) ?_
  unfold tryCompare
  have cl : wpAny (model X.prog X.w) X.A (call (.ref g) [.ref a, .int i t]) (fun u s' => u = .notImplemented ∧ L2.Inv X pins σ H s') X.xe s := by
    refine wpAny_call (codeAny_mono (N X.A X.stack s H [.ref a, .int i t] [.ref a, .int i] hr I.env0 (.cons rfl (.cons ⟨t, rfl⟩ .nil)) hp) fun r s' z => ?_)
    obtain ⟨rfl, z⟩ := z
    obtain ⟨v, H', I', rv, e⟩ := I.after z
    rw [e] at I'
    exact ⟨rfl, I'⟩
  refine wpAny_bind (PySem.W.ifBound_K KI J hs hf (wpAny_mono cl (fun u s' z => ?_) fun _ _ z => z))
  obtain ⟨rfl, I'⟩ := z
  refine wpAny_pure ?_
  obtain ⟨mA', J', _⟩ := ins_get I'.hok ha
  obtain ⟨od', J', _⟩ := J'.look
  dsimp only
  refine wpAny_bind (m := tryCompare (.int i t) _ (.ref a)) ?_
  refine wpAny_tryCompare_declines (typeIs_int _ i t) PySem.F.slot_int_eq (call_meets PySem.F.slot_int_eq (typeIs_int _ i t) PySem.F.entry_int_eq (PySem.F.args_int_eq_2 _ _) (int_eq_ref i t a C dx) ⟨J'.at_, rfl, ?_⟩)
  dsimp only
  refine wpAny_bind (wpAny_rule (wpAny_bind (wpAny_isSame_plain (by rfl) (wpAny_pure ?_))))
  have z : (Value.ref a == Value.int i t) = false := Bool.eq_false_iff.mpr fun q => by cases beq_iff_eq.mp q
  rw [z]
  exact ⟨.bl false, H, I', rfl, q⟩
end
/-! ### x(e, ..) and x(), x a local name that holds an instance -/
section
variable {X : Cx} {CX : CXT} {k i : Nat} {C g : Addr} {sp : Sp} {E : XK} {x : Str} {e : Expr} {es : List Expr} {t : TA} {p pos : Pos}
theorem run_ins {pins : List (Addr × Obj)} {σ : L2.St} {H : Hp} {s : Shared} {Q : VK} {a dx : Addr} {fs : List (Str × V)} {us : List Value} {vs : List V} (c : StX.CallO X.K C g) (F : FnR X.prog X.w X.K X.mg X.base CX k g sp) (hr : Room k X.A) (hx : Passes CX X E) (I : L2.Inv X pins σ H s)
    (ha : H a = some (.ins C dx fs)) (r : Vals vs us) (h : sp (V.ref a :: vs) H Q E) : wpAny (model X.prog X.w) X.A (call (.ref a) us) (EP X pins σ Q) X.xe s := by
  obtain ⟨mA, J, _⟩ := ins_get I.hok ha
  obtain ⟨od, J, _⟩ := J.look
  exact wpAny_call (PySem.W.kco_code I.kIn J rfl c.at_ c.fn c.fi (run_fnR (us := .ref a :: us) (vs := .ref a :: vs) F hr hx I (.cons rfl r) h))
def tCallI (i : Nat) (C : Addr) (sp : Sp) (E : XK) (t : TA) : TE := fun σ H Q => ∃ a, σ[i]? = some (some (.ref a)) ∧ t σ H fun vs H1 => (∃ dx fs, H1 a = some (.ins C dx fs)) ∧ sp (V.ref a :: vs) H1 Q E
theorem pe_callI (c : StX.CallO X.K C g) (F : FnR X.prog X.w X.K X.mg X.base CX k g sp) (hr : Room k X.A) (hx : Passes CX X E) (hN : X.N[i]? = some x) (hv : Vis X.env.scope x) (ha : PA X (e :: es) t)
    (hd : (x == ("__debug__" : Str)) = false := by decide) (hcd : (x == ("__classdict__" : Str)) = false := by decide)
    (he : starEach (e :: es) X.env = (false, eval e X.env) :: starEach es X.env := by rfl) (hpl : (backTo pos (starEach es X.env)).any (·.1) = false := by rfl) : PE X (.Call (.Name x p) (e :: es) [] pos) (tCallI i C sp E t) := by
  refine ⟨fun pins s σ H Q I h => ?_⟩
  obtain ⟨a, hs, h⟩ := h
  refine wpAny_Call_Name_kw (thn ((pe_var (pos := p) (i := i) hN hv hd hcd).run pins s σ H (fun v H1 => v = .ref a ∧ H1 = H) I ⟨.ref a, hs, rfl, rfl⟩) fun u s1 ⟨v, H1, I1, r1, ev, eH⟩ => ?_)
  subst ev
  rw [eH] at I1
  cases r1
  refine StX.callO_with (thn (ha.run pos pins s1 σ H _ I1 h) fun us s2 ⟨vs, H2, I2, r, ⟨dx, fs, hi⟩, q2⟩ => ?_) he hpl
  obtain ⟨mA, J, _⟩ := ins_get I2.hok hi
  obtain ⟨od, J, _⟩ := J.look
  exact ⟨⟨C, _, _, J, rfl⟩, run_ins c F hr hx I2 hi r q2⟩
theorem pe_callI0 (c : StX.CallO X.K C g) (F : FnR X.prog X.w X.K X.mg X.base CX k g sp) (hr : Room k X.A) (hx : Passes CX X E) (hN : X.N[i]? = some x) (hv : Vis X.env.scope x)
    (hd : (x == ("__debug__" : Str)) = false := by decide) (hcd : (x == ("__classdict__" : Str)) = false := by decide) : PE X (.Call (.Name x p) [] [] pos) (tCallI i C sp E tNil) := by
  refine ⟨fun pins s σ H Q I h => ?_⟩
  obtain ⟨a, hs, ⟨dx, fs, hi⟩, h⟩ := h
  refine wpAny_Call_Name_kw (thn ((pe_var (pos := p) (i := i) hN hv hd hcd).run pins s σ H (fun v H1 => v = .ref a ∧ H1 = H) I ⟨.ref a, hs, rfl, rfl⟩) fun u s1 ⟨v, H1, I1, r1, ev, eH⟩ => ?_)
  subst ev
  rw [eH] at I1
  cases r1
  obtain ⟨mA, J, _⟩ := ins_get I1.hok hi
  obtain ⟨od, J, _⟩ := J.look
  exact PySem.W.kco_callWith0 (K := X.K) I1.kIn J rfl c.at_ (run_ins (us := []) c F hr hx I1 hi .nil h)
end
end Own

namespace Own
open PySem PySem.Spec PyProof.Rows L2
/-- a promise told of the values as they come -/
theorem fnr_of {P : Program} {w : World} {K : PySem.W.Frag} {mg : Str → Option Value} {base : Heap} {CX : CXT} {k : Nat} {f : Addr} {fd : FuncData} {ps : List Str} {sp : Sp} {dvs : List V} {ds : List Value} (G : FnOk P w K mg base CX k f fd ps sp) (hb : Binds K fd ps ds) (hd : Vals dvs ds) :
    FnR P w K mg base CX k f (fun vs H Q E => sp (vs ++ dvs) H Q E) := fun A outer s H us vs Q E hr e0 r h => by
  have KX : K.In s.heap := e0.mod.kin.keeps fun b o e => (e0.bs b o e).1
  have hl : (us ++ ds).length = ps.length := by
    have e := (r.append hd).length
    rw [G.len _ _ _ _ h] at e
    exact e.symm
  exact G.run A outer s H ⟨us, []⟩ (us ++ ds) (vs ++ dvs) Q E hr e0 (hb s us KX hl) (r.append hd) h
theorem fnr0 {P : Program} {w : World} {K : PySem.W.Frag} {mg : Str → Option Value} {base : Heap} {CX : CXT} {k : Nat} {f : Addr} {fd : FuncData} {ps : List Str} {sp : Sp} (G : FnOk P w K mg base CX k f fd ps sp) (hb : Binds K fd ps []) :
    FnR P w K mg base CX k f sp := (fnr_of G hb .nil).imp fun vs H Q E h => by rw [List.append_nil]; exact h
section
variable {X : Cx} {CX : CXT} {k i : Nat} {C g f : Addr} {sp : Sp} {E : L2.St → XK} {x : Str} {e a b : Expr} {es : List Expr} {t : TA} {ta tb : TE} {p pos : Pos} {fd : FuncData} {ps : List Str} {dvs : List V} {ds : List Value}
theorem run_fnRS {pins : List (Addr × Obj)} {σ : L2.St} {H : Hp} {s : Shared} {Q : VK} {us : List Value} {vs : List V} (F : FnR X.prog X.w X.K X.mg X.base CX k g sp) (hr : Room k X.A) (hx : PassesAt CX X σ (E σ)) (I : L2.Inv X pins σ H s) (r : Vals vs us) (h : sp vs H Q (E σ)) :
    codeAny (model X.prog X.w) X.A (.call (.ref g) ⟨us, []⟩) (fun r s' => match r with | .ok (.ret v) => EP X pins σ Q v s' | .ok _ => False | .error e => X.xe e s') s := by
  refine codeAny_mono (F X.A X.stack s H us vs Q (E σ) hr I.env0 r h) fun r s' hq => ?_
  cases r with
  | error e => exact hx pins H s e s' I hq
  | ok fl =>
    cases fl with
    | ret u => exact I.after hq
    | next => exact False.elim hq
    | brk => exact False.elim hq
    | cont => exact False.elim hq
/-- a + b of two instances of one own class -/
theorem pe_binS {op : Operator} (F : FnR X.prog X.w X.K X.mg X.base CX k g sp) (hs : PySem.W.findIn X.K (.ref C) (PySem.dunder op.info.2) = some (some (.ref g))) (hf : PySem.W.isFn X.K (.ref g) = true) (hc : PySem.W.selfFirst X.K C = true) (hr : Room k X.A)
    (hx : ∀ σ, PassesAt CX X σ (E σ)) (ha : PE X a ta) (hb : PE X b tb) : PE X (.BinOp a op b pos) (fun σ H Q => ta σ H fun x H1 => tb σ H1 fun y H2 => rOwn C sp (E σ) x y H2 Q) := by
  refine ⟨fun pins s σ H Q I h => ?_⟩
  have h' : tOp (fun x y H2 Q => rOwn C sp (E σ) x y H2 Q) ta tb σ H Q := h
  refine wpAny_BinOp (binT ha hb I h' fun v u s2 x y H2 I2 rx ry q => ?_)
  obtain ⟨a, b, dx, dy, fs, gs, rfl, rfl, ha, hb, hsp⟩ := q
  cases rx
  cases ry
  obtain ⟨mA, J, _⟩ := ins_get I2.hok ha
  obtain ⟨mB, J', _⟩ := ins_get I2.hok hb
  obtain ⟨od, J, _⟩ := J.look
  obtain ⟨od', J', _⟩ := J'.look
  obtain ⟨m, hF⟩ := I2.fr
  refine PySem.W.binop_K (op := op) hF I2.ok.mod.kin J J'.type hc hs hf ?_
  exact wpAny_mono (wpAny_call (run_fnRS F hr (hx σ) I2 (us := [.ref a, .ref b]) (vs := [.ref a, .ref b]) (.cons rfl (.cons rfl .nil)) hsp)) (fun _ _ z => back z) fun _ _ z => z
/-- C(e, ..) whose __init__ may raise -/
structure MkS (C : Addr) (sp : Sp) (E : XK) (vs : List V) (H1 : Hp) (Q : VK) : Prop where
  run : ∀ x dx, H1 x = Option.none → H1 dx = Option.none → dx ≠ x → sp (V.ref x :: vs) (upd (upd H1 dx (.own x)) x (.ins C dx [])) (fun v H2 => v = .non ∧ Q (.ref x) H2) E
def tMakeS (C : Addr) (sp : Sp) (E : L2.St → XK) (t : TA) : TE := fun σ H Q => t σ H fun vs H1 => MkS C sp (E σ) vs H1 Q
theorem pe_makeS (M : Mk X.K C f) (F : FnR X.prog X.w X.K X.mg X.base CX k f sp) (hr : Room (k + 1) X.A) (hg : Gl X x) (hm : X.mg x = some (.ref C)) (hx : ∀ σ, PassesAt CX X σ (E σ)) (ha : PA X (e :: es) t) (hdb : (x == ("__debug__" : Str)) = false := by decide)
    (he : starEach (e :: es) X.env = (false, eval e X.env) :: starEach es X.env := by rfl) (hpl : (backTo pos (starEach es X.env)).any (·.1) = false := by rfl) : PE X (.Call (.Name x p) (e :: es) [] pos) (tMakeS C sp E t) := by
  refine ⟨fun pins s σ H Q I h => ?_⟩
  refine wpAny_Call_Name_kw (ld_glob I hg hm ?_ hdb)
  refine PySem.W.callWith_K (h₀ := X.base) I.ok.mod.kin M.kp (thn (ha.run pos pins s σ H _ I h) fun us s1 ⟨vs, H1, I1, r, q⟩ => ⟨I1.kIn, ?_⟩) he hpl
  have hq := q.run (s1.heap.objs.size + 1) s1.heap.objs.size (I1.hok.fresh (Nat.le_succ _)) (I1.hok.fresh (Nat.le_refl _)) (Nat.ne_of_lt (Nat.lt_succ_self _))
  have I2 := Inv.made (C := C) I1
  have r2 : Vals (V.ref (s1.heap.objs.size + 1) :: vs) (Value.ref (s1.heap.objs.size + 1) :: us) := .cons rfl r
  refine wpAny_call (make_map (f := f) I1.kIn M.makes M.init (beq_iff_eq.mp M.fn) (codeAny_mono (F _ X.stack _ _ (Value.ref (s1.heap.objs.size + 1) :: us) _ _ (E σ) (hr.make C us []) (I2.env0.make C us []) r2 hq) fun r s' hq' => ?_))
  cases r with
  | error e => exact hx σ pins _ _ e s' I2 hq'
  | ok fl =>
    cases fl with
    | ret u =>
      obtain ⟨v, H', I3, rv, ev, q3⟩ := I2.after hq'
      subst ev
      exact ⟨rv, ⟨V.ref (s1.heap.objs.size + 1), H', I3, rfl, q3⟩⟩
    | next => exact False.elim hq'
    | brk => exact False.elim hq'
    | cont => exact False.elim hq'
def tCallIS (i : Nat) (C : Addr) (sp : Sp) (E : L2.St → XK) (t : TA) : TE := fun σ H Q => ∃ a, σ[i]? = some (some (.ref a)) ∧ t σ H fun vs H1 => (∃ dx fs, H1 a = some (.ins C dx fs)) ∧ sp (V.ref a :: vs) H1 Q (E σ)
theorem run_insS {pins : List (Addr × Obj)} {σ : L2.St} {H : Hp} {s : Shared} {Q : VK} {a dx : Addr} {fs : List (Str × V)} {us : List Value} {vs : List V} (c : StX.CallO X.K C g) (F : FnR X.prog X.w X.K X.mg X.base CX k g sp) (hr : Room k X.A) (hx : PassesAt CX X σ (E σ)) (I : L2.Inv X pins σ H s)
    (ha : H a = some (.ins C dx fs)) (r : Vals vs us) (h : sp (V.ref a :: vs) H Q (E σ)) : wpAny (model X.prog X.w) X.A (call (.ref a) us) (EP X pins σ Q) X.xe s := by
  obtain ⟨mA, J, _⟩ := ins_get I.hok ha
  obtain ⟨od, J, _⟩ := J.look
  exact wpAny_call (PySem.W.kco_code I.kIn J rfl c.at_ c.fn c.fi (run_fnRS (us := .ref a :: us) (vs := .ref a :: vs) F hr hx I (.cons rfl r) h))
theorem pe_callIS (c : StX.CallO X.K C g) (F : FnR X.prog X.w X.K X.mg X.base CX k g sp) (hr : Room k X.A) (hx : ∀ σ, PassesAt CX X σ (E σ)) (hN : X.N[i]? = some x) (hv : Vis X.env.scope x) (ha : PA X (e :: es) t)
    (hd : (x == ("__debug__" : Str)) = false := by decide) (hcd : (x == ("__classdict__" : Str)) = false := by decide)
    (he : starEach (e :: es) X.env = (false, eval e X.env) :: starEach es X.env := by rfl) (hpl : (backTo pos (starEach es X.env)).any (·.1) = false := by rfl) : PE X (.Call (.Name x p) (e :: es) [] pos) (tCallIS i C sp E t) := by
  refine ⟨fun pins s σ H Q I h => ?_⟩
  obtain ⟨a, hs, h⟩ := h
  refine wpAny_Call_Name_kw (thn ((pe_var (pos := p) (i := i) hN hv hd hcd).run pins s σ H (fun v H1 => v = .ref a ∧ H1 = H) I ⟨.ref a, hs, rfl, rfl⟩) fun u s1 ⟨v, H1, I1, r1, ev, eH⟩ => ?_)
  subst ev
  rw [eH] at I1
  cases r1
  refine StX.callO_with (thn (ha.run pos pins s1 σ H _ I1 h) fun us s2 ⟨vs, H2, I2, r, ⟨dx, fs, hi⟩, q2⟩ => ?_) he hpl
  obtain ⟨mA, J, _⟩ := ins_get I2.hok hi
  obtain ⟨od, J, _⟩ := J.look
  exact ⟨⟨C, _, _, J, rfl⟩, run_insS c F hr (hx σ) I2 hi r q2⟩
theorem pe_callIS0 (c : StX.CallO X.K C g) (F : FnR X.prog X.w X.K X.mg X.base CX k g sp) (hr : Room k X.A) (hx : ∀ σ, PassesAt CX X σ (E σ)) (hN : X.N[i]? = some x) (hv : Vis X.env.scope x)
    (hd : (x == ("__debug__" : Str)) = false := by decide) (hcd : (x == ("__classdict__" : Str)) = false := by decide) : PE X (.Call (.Name x p) [] [] pos) (tCallIS i C sp E tNil) := by
  refine ⟨fun pins s σ H Q I h => ?_⟩
  obtain ⟨a, hs, ⟨dx, fs, hi⟩, h⟩ := h
  refine wpAny_Call_Name_kw (thn ((pe_var (pos := p) (i := i) hN hv hd hcd).run pins s σ H (fun v H1 => v = .ref a ∧ H1 = H) I ⟨.ref a, hs, rfl, rfl⟩) fun u s1 ⟨v, H1, I1, r1, ev, eH⟩ => ?_)
  subst ev
  rw [eH] at I1
  cases r1
  obtain ⟨mA, J, _⟩ := ins_get I1.hok hi
  obtain ⟨od, J, _⟩ := J.look
  exact PySem.W.kco_callWith0 (K := X.K) I1.kIn J rfl c.at_ (run_insS (us := []) c F hr (hx σ) I1 hi .nil h)
end
end Own

/-! def f(self, **d): the keywords of a call, as a dict. -/
namespace KwX
open PySem PySem.Spec PyProof.Rows L2 StX
open PySem.W (dictOf kwEs)
section
variable {prog : Program} {w : World} {A : Around} {E : Value → Shared → Prop}
theorem set_at {s : Shared} {d : Addr} {es : List DictEntry} {n : Nat} {k : Str} {v : Value} {Q : Unit → Shared → Prop} (D : s.heap.get? d = some (dictOf es n)) (hs : ∀ e ∈ es, e.key.isStr k = false) (hr : ∀ e ∈ es, e.refKey = false)
    (h : ∀ h', h'.get? d = some (dictOf (es ++ [⟨PyData.keyHash w.params k, .str k s.toks, v⟩]) (n + 1)) → (∀ b, b ≠ d → h'.get? b = s.heap.get? b) → h'.objs.size = s.heap.objs.size → Q () { s with heap := h', toks := s.toks + 1 }) :
    wpAny (model prog w) A (nsSet d k v) Q E s := by
  have none_of : ∀ {p : DictEntry → Bool}, (∀ e ∈ es, p e = false) → es.any p = false := fun {p} hp => by
    cases q : es.any p with
    | false => rfl
    | true =>
      obtain ⟨e, he, z⟩ := List.any_eq_true.mp q
      rw [hp e he] at z
      cases z
  have e1 := none_of hs
  have e2 := none_of hr
  have e : Obj.putName k (PyData.keyHash w.params k) (.str k s.toks) v (dictOf es n) = dictOf (es ++ [⟨PyData.keyHash w.params k, .str k s.toks, v⟩]) (n + 1) := by
    rw [PySem.W.putName_dict, PySem.W.putL_new hs]
    show dictOf _ (if es.any (·.key.isStr k) then n else n + 1) = _
    rw [e1, if_neg Bool.false_ne_true]
  have c : aRefKeyMayBeTheName k es.toArray = false := by
    rw [aRefKeyMayBeTheName_at, ← Array.any_toList, ← Array.any_toList]
    show (!es.any (·.key.isStr k) && es.any (·.refKey)) = false
    rw [e2, Bool.and_false]
  unfold nsSet
  refine wpAny_bind (wpAny_bind (wpAny_askSetting (wpAny_pure (wpAny_bind (wpAny_mkText (wpAny_bind (wpAny_loadPart D ?_)))))))
  dsimp only
  rw [c]
  refine wpAny_updatePart D (h _ ?_ (fun b hb => ?_) (Heap.size_update _ _ _))
  · have q : (Obj.putName k (PyData.keyHash w.params k) (.str k s.toks) v (dictOf es n)).isFreed = false := (congrArg Obj.isFreed e).trans rfl
    exact (Heap.get?_update_self _ D q).trans (congrArg some e)
  · exact Heap.get?_update_other _ _ (Ne.symm hb)
theorem fill_at {d : Addr} {Q : PUnit → Shared → Prop} : ∀ (ex : List (Str × Value)) (s : Shared) (es : List DictEntry) (n : Nat), s.heap.get? d = some (dictOf es n) →
    (∀ e ∈ es, ∀ x ∈ ex, e.key.isStr x.1 = false) → (∀ e ∈ es, e.refKey = false) → (ex.map (·.1)).Nodup →
    (∀ h' tk, h'.get? d = some (dictOf (es ++ kwEs w.params s.toks ex) (n + ex.length)) → (∀ b, b ≠ d → h'.get? b = s.heap.get? b) → h'.objs.size = s.heap.objs.size → Q ⟨⟩ { s with heap := h', toks := tk }) →
    wpAny (model prog w) A (forIn ex PUnit.unit fun x _ => (nsSet d x.1 x.2 >>= fun _ => pure (ForInStep.yield PUnit.unit))) Q E s
  | [], s, es, n, D, _, _, _, h => by
    rw [List.forIn_nil]
    refine wpAny_pure (h s.heap s.toks ?_ (fun _ _ => rfl) rfl)
    show s.heap.get? d = some (dictOf (es ++ []) n)
    rw [List.append_nil]
    exact D
  | x :: r, s, es, n, D, hs, hr, hn, h => by
    obtain ⟨hn1, hn2⟩ := List.nodup_cons.mp (show (x.1 :: r.map (·.1)).Nodup from hn)
    rw [List.forIn_cons]
    refine wpAny_bind (wpAny_bind (set_at D (fun e he => hs e he x (.head _)) hr fun h' D' ho hz => wpAny_pure ?_))
    show wpAny (model prog w) A (forIn r PUnit.unit fun x _ => (nsSet d x.1 x.2 >>= fun _ => pure (ForInStep.yield PUnit.unit))) Q E { s with heap := h', toks := s.toks + 1 }
    refine fill_at r { s with heap := h', toks := s.toks + 1 } _ _ D' (fun e he y hy => ?_) (fun e he => ?_) hn2 fun h'' tk D'' ho' hz' => ?_
    · rcases List.mem_append.mp he with he | he
      · exact hs e he y (.tail _ hy)
      · obtain rfl := List.mem_singleton.mp he
        show (x.1 == y.1) = false
        exact beq_eq_false_iff_ne.mpr fun q => hn1 (by rw [q]; exact List.mem_map_of_mem hy)
    · rcases List.mem_append.mp he with he | he
      · exact hr e he
      · obtain rfl := List.mem_singleton.mp he
        rfl
    · refine h h'' tk ?_ (fun b hb => (ho' b hb).trans (ho b hb)) (hz'.trans hz)
      have t2 : n + 1 + r.length = n + (r.length + 1) := by omega
      rw [t2, List.append_assoc] at D''
      exact D''
/-- the entries, as the hand layer's dicts tell them -/
theorem pairs_mix : ∀ (ex : List (Str × Value)) (t : Tok), Pairs (mixKind prog w) (kwEs w.params t ex) (ex.map fun x => (.inr x.1, x.2))
  | [], _ => Pairs.nil
  | x :: r, t => Pairs.cons (mixKind_str prog w x.1 t) rfl (pairs_mix r (t + 1))
theorem dict_mix {h : Heap} {d : Addr} {ex : List (Str × Value)} {t : Tok} {n : Nat} (hn : (ex.map (·.1)).Nodup) (D : h.get? d = some (dictOf (kwEs w.params t ex) n)) : h.DictOf (mixKind prog w) d (ex.map fun x => (.inr x.1, x.2)) := by
  refine ⟨_, (kwEs w.params t ex).toArray, n, D, ⟨rfl, rfl, rfl⟩, rfl, fun e he => ?_, pairs_mix ex t, ?_⟩
  · obtain ⟨k, u, hk, hh⟩ := PySem.W.kwEs_key ex t e (List.mem_toArray.mp he)
    exact ⟨.inr k, by rw [hk]; exact mixKind_str prog w k u, hh.trans rfl⟩
  · rw [List.map_map]
    have e : ((fun x : Key × Value => x.1) ∘ fun x : Str × Value => ((.inr x.1 : Key), x.2)) = (Sum.inr : Str → Key) ∘ (·.1) := rfl
    rw [e, ← List.map_map]
    exact List.Pairwise.map _ (fun a b hab z => hab (Sum.inr.inj z)) hn
end
/-- the dict of the keywords ks with these values -/
def kwD (ks : List Str) (zs : List V) : List (Key × V) := (ks.zip zs).map fun p => (.inr p.1, p.2)
theorem kv_zip : ∀ {ks : List Str} {zs : List V} {ws : List Value}, Vals zs ws → KV (kwD ks zs) ((ks.zip ws).map fun x => (.inr x.1, x.2))
  | [], _, _, _ => .nil
  | _ :: _, _, _, .nil => .nil
  | _ :: ks, _, _, .cons r rr => .cons ⟨rfl, r⟩ (kv_zip (ks := ks) rr)
/-- what a def with **d makes of a call with the keywords ks -/
def FnKw (P : Program) (w : World) (K : PySem.W.Frag) (mg : Str → Option Value) (base : Heap) (CX : CXT) (k : Nat) (f : Addr) (ks : List Str) (sp : Sp) : Prop :=
  ∀ (A : Around) (outer : List Env) (s : Shared) (H : Hp) (us ws : List Value) (vs zs : List V) (Q : VK) (E : XK), Room k A → Env0 P w K mg base A outer s H → Vals vs us → Vals zs ws → zs.length = ks.length →
    (∀ d, H d = none → sp (vs ++ [.ref d]) (upd H d (.dK (kwD ks zs))) Q E) → codeAny (model P w) A (.call (.ref f) ⟨us, ks.zip ws⟩) (CR CX outer P w H s Q E) s
section
variable {CX : CXT} {P : Program} {w : World} {K : PySem.W.Frag} {mg : Str → Option Value} {base : Heap} {k : Nat} {f : Addr} {name qual : Str} {params : Arguments} {body : List Stmt} {scope : Scope} {dV kV doc pm cdv ct oc : Value} {an od : Option Addr}
  {osl : Array (Option Value)} {N ps : List Str} {sp : Sp}
theorem fn_kw {pd : Str} {ks : List Str} (lk : K.lookup f = some ⟨oc, od, .func (PySem.W.fnOf name qual params body scope dV kV doc pm an cdv ct), osl⟩) (hcd : PySem.W.codeIn K cdv qual = true) (S : FnScope N (ps ++ [pd]) scope) (hCX : CXUp CX) (hks : ks.Nodup) (hk60 : ks.length ≤ 60)
    (len : ∀ vs H Q E, sp vs H Q E → vs.length = ps.length + 1)
    (hb : ∀ us ws : List Value, us.length = ps.length → ws.length = ks.length → bindArgs (PySem.W.fnOf name qual params body scope dV kV doc pm an cdv ct) ⟨us, ks.zip ws⟩ =
      ((alloc ({ cls := .type "dict", data := .dict #[] } : Obj) : Sem Addr) >>= fun d => (forIn (ks.zip ws) PUnit.unit fun x _ => (nsSet d x.1 x.2 >>= fun _ => pure (ForInStep.yield PUnit.unit))) >>= fun _ => pure (ps.zip us ++ [(pd, Value.ref d)])))
    (hbody : ∀ (A : Around) (outer : List Env) (s : Shared) (H : Hp) (vs : List V) (Q : VK) (E : XK), Room k (A.deeper (envOfC qual scope s.heap.objs.size f cdv)) → sp vs H Q E →
      ∃ t, PSs (cxOf CX P w K mg base N qual scope f cdv A outer s H E) body t ∧ t { nx := fun _ H' => Q .non H', rt := Q } (start N vs) H) : FnKw P w K mg base CX (k + 1) f ks sp := by
  intro A outer s H us ws vs zs Q E hr e0 r rz hz hq
  have hn : H s.heap.objs.size = none := e0.hok.fresh (Nat.le_refl _)
  have hl : vs.length = ps.length := by
    have e := len _ _ _ _ (hq _ hn)
    rw [List.length_append] at e
    exact Nat.succ.inj e
  have hl1 : us.length = ps.length := by rw [← r.length]; exact hl
  have hl2 : ws.length = ks.length := by rw [← rz.length]; exact hz
  refine run_bnd lk hcd S hr e0 (G := fun xs H2 => ∃ d, H d = none ∧ xs = vs ++ [V.ref d] ∧ H2 = upd H d (.dK (kwD ks zs))) (fun A' Ex Q' h => ?_) fun s2 H2 xs ⟨d, hd, ex, eH⟩ hr' => ?_
  · rw [hb us ws hl1 hl2]
    have D0 : (s.heap.push ({ cls := .type "dict", data := .dict #[] } : Obj)).get? s.heap.objs.size = some (dictOf [] 0) := Heap.get?_push_size _ rfl
    have nd : ((ks.zip ws).map (·.1)).Nodup := by
      have e : (ks.zip ws).map (·.1) = ks := List.map_fst_zip (by omega)
      rw [e]
      exact hks
    refine wpAny_bind (wpAny_alloc (wpAny_bind (fill_at (ks.zip ws) _ [] 0 D0 (fun _ he => nomatch he) (fun _ he => nomatch he) nd fun h' tk D' ho hsz => wpAny_pure ?_)))
    have kp : ∀ b o, s.heap.get? b = some o → h'.get? b = some o := fun b o e => by
      have n := Nat.ne_of_lt (Heap.lt_size e)
      rw [ho b n]
      exact Heap.get?_push_of_some _ e
    have new : ObjOk P w (upd H s.heap.objs.size (.dK (kwD ks zs))) h' s.heap.objs.size (.dK (kwD ks zs)) := by
      refine ⟨?_, ?_, _, kv_zip rz, dict_mix nd D'⟩
      · unfold kwD
        rw [List.length_map, List.length_zip, hz, Nat.min_self, sizeLine_eq]
        omega
      · exact beq_eq_false_iff_ne.mpr (Nat.ne_of_gt (env0_big e0))
    have e1 : Env0 P w K mg base A outer { s with heap := h', toks := tk } (upd H s.heap.objs.size (.dK (kwD ks zs))) := by
      refine ⟨e0.frames, e0.mod, fun b x e => ⟨kp b x (e0.bs b x e).1, ?_⟩, ?_, Heap.FunFrames.of_keeps (fun b x e _ => ⟨x, kp b x e, rfl⟩) e0.funs, fun b hb => ?_, e0.hok.laid kp (Nat.le_refl _) new, e0.bare⟩
      · rw [upd_ne (Nat.ne_of_lt (Heap.lt_size (e0.bs b x e).1))]
        exact (e0.bs b x e).2
      · show base.objs.size ≤ h'.objs.size
        rw [hsz, Heap.size_push]
        exact Nat.le_succ_of_le e0.bsz
      · obtain ⟨_, x, hx, _⟩ := e0.funs.mem hb
        rw [upd_ne (Nat.ne_of_lt (Heap.lt_size hx))]
        exact e0.frf b hb
    have un : Un (frs outer) [] H (upd H s.heap.objs.size (.dK (kwD ks zs))) s.heap h' := Un.laid kp (Nat.le_refl _) hn
    have z := h _ _ (vs ++ [V.ref s.heap.objs.size]) (us ++ [Value.ref s.heap.objs.size]) e1 un rfl (fun e s' => hCX outer s H _ _ E e s' un kp rfl) (r.append (.cons rfl .nil)) (by rw [List.length_append, List.length_append, hl] <;> rfl) ⟨_, hn, rfl, rfl⟩
    rw [List.zip_append hl1.symm] at z
    exact z
  · subst ex eH
    exact hbody A outer s2 _ _ Q E hr' (hq d hd)
end
/-- C(k = v, ..) where __init__ takes **d -/
structure MkW (C : Addr) (ks : List Str) (sp : Sp) (E : XK) (zs : List V) (H1 : Hp) (Q : VK) : Prop where
  len : zs.length = ks.length
  run : ∀ x dx d, H1 x = none → H1 dx = none → dx ≠ x → H1 d = none → d ≠ x → d ≠ dx → sp [.ref x, .ref d] (upd (upd (upd H1 dx (.own x)) x (.ins C dx [])) d (.dK (kwD ks zs))) (fun v H2 => v = .non ∧ Q (.ref x) H2) E
def tMakeW (C : Addr) (ks : List Str) (sp : Sp) (E : L2.St → XK) (tk : TA) : TE := fun σ H Q => tk σ H fun zs H1 => MkW C ks sp (E σ) zs H1 Q
section
variable {X : Cx} {CX : CXT} {k : Nat} {f C : Addr} {ks : List Str} {sp : Sp} {E : L2.St → XK} {x : Str} {p pos : Pos} {kws : List Keyword} {tk : TA}
theorem run_makeW {pins : List (Addr × Obj)} {σ : L2.St} {H : Hp} {s : Shared} {Q : VK} {ws : List Value} {zs : List V} (M : Mk X.K C f) (F : FnKw X.prog X.w X.K X.mg X.base CX k f ks sp) (hr : Room (k + 1) X.A) (hx : PassesAt CX X σ (E σ))
    (I : L2.Inv X pins σ H s) (rz : Vals zs ws) (h : MkW C ks sp (E σ) zs H Q) : wpAny (model X.prog X.w) X.A (call (.ref C) [] (ks.zip ws)) (EP X pins σ Q) X.xe s := by
  have nx : H (s.heap.objs.size + 1) = none := I.hok.fresh (Nat.le_succ _)
  have ndx : H s.heap.objs.size = none := I.hok.fresh (Nat.le_refl _)
  have nn : s.heap.objs.size ≠ s.heap.objs.size + 1 := Nat.ne_of_lt (Nat.lt_succ_self _)
  have I2 := Inv.made (C := C) I
  have hd0 : ∀ d, upd (upd H s.heap.objs.size (.own (s.heap.objs.size + 1))) (s.heap.objs.size + 1) (.ins C s.heap.objs.size []) d = none → sp ([V.ref (s.heap.objs.size + 1)] ++ [.ref d]) (upd (upd (upd H s.heap.objs.size (.own (s.heap.objs.size + 1))) (s.heap.objs.size + 1) (.ins C s.heap.objs.size [])) d (.dK (kwD ks zs)))
      (fun v H2 => v = .non ∧ Q (.ref (s.heap.objs.size + 1)) H2) (E σ) := fun d hd => by
    have n1 : d ≠ s.heap.objs.size + 1 := fun z => by
      rw [z, upd_same] at hd
      cases hd
    have n2 : d ≠ s.heap.objs.size := fun z => by
      rw [z, upd_ne nn, upd_same] at hd
      cases hd
    rw [upd_ne n1, upd_ne n2] at hd
    exact h.run _ _ d nx ndx nn hd n1 n2
  refine wpAny_call (make_map (f := f) I.kIn M.makes M.init (beq_iff_eq.mp M.fn) (codeAny_mono (F _ X.stack _ _ [Value.ref (s.heap.objs.size + 1)] ws [V.ref (s.heap.objs.size + 1)] zs _ (E σ) (hr.make C [] (ks.zip ws)) (I2.env0.make C [] (ks.zip ws)) (.cons rfl .nil) rz h.len hd0) fun r s' hq' => ?_))
  cases r with
  | error e => exact hx pins _ _ e s' I2 hq'
  | ok fl =>
    cases fl with
    | ret u =>
      obtain ⟨v, H', I3, rv, ev, q3⟩ := I2.after hq'
      subst ev
      exact ⟨rv, ⟨V.ref (s.heap.objs.size + 1), H', I3, rfl, q3⟩⟩
    | next => exact False.elim hq'
    | brk => exact False.elim hq'
    | cont => exact False.elim hq'
theorem pe_makeW (M : Mk X.K C f) (F : FnKw X.prog X.w X.K X.mg X.base CX k f ks sp) (hr : Room (k + 1) X.A) (hg : Gl X x) (hm : X.mg x = some (.ref C)) (hx : ∀ σ, PassesAt CX X σ (E σ)) (hkw : PK X kws tk)
    (hall : (backToKw pos (keywordEach kws X.env)).all (·.1.isSome) = true := by rfl) (hks : (backToKw pos (keywordEach kws X.env)).filterMap (·.1) = ks := by rfl) (hdb : (x == ("__debug__" : Str)) = false := by decide)
    (hpl : ((backTo pos (starEach [] X.env)).any (·.1) || (backToKw pos (keywordEach kws X.env)).any (·.1.isNone)) = false := by rfl) :
    PE X (.Call (.Name x p) [] kws pos) (tMakeW C ks sp E tk) := by
  refine ⟨fun pins s σ H Q I h => ?_⟩
  refine wpAny_Call_Name_kw (ld_glob I hg hm ?_ hdb)
  refine PySem.W.callWith_KW0 (h₀ := X.base) I.ok.mod.kin M.kp hall ?_ hpl
  refine thn (hkw.run pos pins s σ H _ I h) fun ws s2 ⟨zs, H2, I2, rz, q2⟩ => ⟨I2.kIn, ?_⟩
  rw [hks]
  exact run_makeW M F hr (hx σ) I2 rz q2
/-- C() -/
theorem pe_makeW0 (M : Mk X.K C f) (F : FnKw X.prog X.w X.K X.mg X.base CX k f [] sp) (hr : Room (k + 1) X.A) (hg : Gl X x) (hm : X.mg x = some (.ref C)) (hx : ∀ σ, PassesAt CX X σ (E σ)) (hdb : (x == ("__debug__" : Str)) = false := by decide) :
    PE X (.Call (.Name x p) [] [] pos) (tMakeW C [] sp E tNil) := by
  refine ⟨fun pins s σ H Q I h => ?_⟩
  refine wpAny_Call_Name_kw (ld_glob I hg hm ?_ hdb)
  exact PySem.W.callWith_K0 I.kIn M.kp (run_makeW (ws := []) M F hr (hx σ) I .nil h)
end
end KwX

namespace Law
open PySem PySem.Spec PyProof.Rows L2
def top (i : Nat) : Stmt := PySem.Challenge.pw_rungbounds_k05_rack_of_names.main.body.getD i (.Pass ⟨0, 0, 0, 0⟩)
abbrev sBox : Stmt := top 20
abbrev sTake : Stmt := top 21

/-- the box at b: the cells in the list at l, the place, what is left of a great cell, the seed -/
def Box (H : Hp) (b l : Addr) : Prop := ∃ (ns : List Int) (i : Nat) (q s : Int), H b = some (.lst [.ref l, .int i, .int q, .int s]) ∧ H l = some (.lst (ns.map V.int)) ∧ ns.length ≤ 63
theorem Box.ne {H : Hp} {b l : Addr} (B : Box H b l) : l ≠ b := fun z => by
  obtain ⟨ns, i, q, s, h1, h2, _⟩ := B
  rw [z, h1] at h2
  have e := HO.lst.inj (Option.some.inj h2)
  cases ns with
  | nil => cases e
  | cons n ns => cases e
theorem Box.keep {H H' : Hp} {b l : Addr} (B : Box H b l) (k : ∀ c, c = b ∨ c = l → H' c = H c) : Box H' b l := by
  obtain ⟨ns, i, q, s, h1, h2, h3⟩ := B
  exact ⟨ns, i, q, s, (k b (.inl rfl)).trans h1, (k l (.inr rfl)).trans h2, h3⟩
/-- a draw: 0 ≤ r < size; nothing but the box has changed -/
def spTake : Sp := fun vs H Q _ => ∃ (b l : Addr) (n : Int), vs = [.ref b, .int n] ∧ Box H b l ∧ 0 < n ∧ n.natAbs < 2 ^ 8000 ∧
  ∀ (r : Int) (H' : Hp), 0 ≤ r → r < n → Box H' b l → (∀ c, c ≠ b → H' c = H c) → Q (.int r) H'
def spBox (K : PySem.W.Frag) : Sp := fun vs H Q _ => ∃ (a : Addr) (ns : List Int), vs = [.ref a] ∧ SqL K H a (ns.map V.int) ∧ ns.length ≤ 63 ∧
  ∀ (b l : Addr) (H' : Hp), Box H' b l → H b = none → H l = none → Same H H' → Q (.ref b) H'
structure BoxTxt (K : PySem.W.Frag) (mg : Str → Option Value) : Prop where
  len : mg "len" = none
  int : mg "int" = none
section
variable {P : Program} {w : World} {K : PySem.W.Frag} {mg : Str → Option Value} {base : Heap}
theorem scTake : FnScope ["_law_box_here", "_law_size", "_law_cell", "_law_digit"] ["_law_box_here", "_law_size"] (defScope sTake) := ⟨rfl, rfl, rfl, by decide +kernel, rfl, by decide +kernel, by decide +kernel⟩
theorem if_t {c : Bool} {A B : Prop} (hc : c = true) (h : A) : if c = true then A else B := by
  rw [hc]
  exact h
theorem if_f {c : Bool} {A B : Prop} (hc : c = false) (h : B) : if c = true then A else B := by
  rw [hc]
  exact h
theorem pow18 : CPow 10 18 := ⟨by decide, by decide, by decide⟩
theorem at_box {l : Addr} {i q s : Int} : atI [V.ref l, .int i, .int q, .int s] 0 = some (.ref l) ∧ atI [V.ref l, .int i, .int q, .int s] 1 = some (.int i) ∧ atI [V.ref l, .int i, .int q, .int s] 2 = some (.int q) ∧ atI [V.ref l, .int i, .int q, .int s] 3 = some (.int s) := ⟨rfl, rfl, rfl, rfl⟩
theorem ok_take {f : Addr} {fd : FuncData} (F : Fun K "_law_take" "_law_take" sTake f fd) (T : BoxTxt K mg) : FnOk P w K mg base CX0 1 f fd ["_law_box_here", "_law_size"] spTake := by
  refine F.ok scTake (fun vs H Q E h => ?_) (fun cdv A outer s H vs Q E hr h => ?_)
  · obtain ⟨b, l, n, rfl, _⟩ := h
    rfl
  · obtain ⟨b, l, n, rfl, B, hn0, hn1, k⟩ := h
    refine ⟨_, C8.pss_cut (ps_if (PW.pt (pw_and (pt_cmpR op_lt (pe_ix ix_list (pv 0) pe_int (fun _ _ => rfl)) pe_int (nomark _))
          (pw_and1 (pt_cmpR op_lt (pe_ix ix_list (pv 0) pe_int (fun _ _ => rfl)) (pe_callB call_len_seq (by rfl) T.len PySem.boot_len (pa_cons (pe_ix ix_list (pv 0) pe_int (fun _ _ => rfl)) pa_nil)) (nomark _)))))
        (pss_cons (ps_set (i := 2) scTake.nd rfl (Or.inl rfl) (pe_ix ix_list (pe_ix ix_list (pv 0) pe_int (fun _ _ => rfl)) (pe_ix ix_list (pv 0) pe_int (fun _ _ => rfl)) (fun _ _ => rfl)))
        (pss_cons (ps_asg (pe_op op_add (pe_ix ix_list (pv 0) pe_int (fun _ _ => rfl)) pe_int) (pg_sub (pv 0) pe_int set_list))
        (pss_one (ps_if (pt_cmpR op_ge (pv 2) (pe_op op_pow pe_int pe_int) (nomark _))
          (pss_one (ps_asg (pe_op op_sub (pv 2) (pe_op op_pow pe_int pe_int)) (pg_sub (pv 0) pe_int set_list)))
          (pss_one (ps_asg (pe_op op_mod (pe_callTy call_int1 (by rfl) T.int (by decide +kernel) (pa_cons (pe_op op_add (pe_op op_add (pe_op op_mul (pe_ix ix_list (pv 0) pe_int (fun _ _ => rfl)) pe_int) (pe_op op_mul (pv 2) pe_int)) pe_int) pa_nil)) pe_int) (pg_sub (pv 0) pe_int set_list)))))))
        pss_nil)
      (pss_cons (ps_if (pt_cmpR op_gt (pe_ix ix_list (pv 0) pe_int (fun _ _ => rfl)) pe_int (nomark _))
        (pss_cons (ps_set (i := 3) scTake.nd rfl (Or.inl rfl) (pe_op op_mod (pe_callTy call_int1 (by rfl) T.int (by decide +kernel) (pa_cons (pe_ix ix_list (pv 0) pe_int (fun _ _ => rfl)) pa_nil)) (pv 1)))
        (pss_cons (ps_asg (pe_op op_fdivW (pe_ix ix_list (pv 0) pe_int (fun _ _ => rfl)) (pv 1)) (pg_sub (pv 0) pe_int set_list))
        (pss_one (ps_ret (pv 3))))) pss_nil)
      (pss_cons (ps_asg (pe_op op_mod (pe_callTy call_int1 (by rfl) T.int (by decide +kernel) (pa_cons (pe_op op_mul (pe_ix ix_list (pv 0) pe_int (fun _ _ => rfl)) pe_int) pa_nil)) pe_int) (pg_sub (pv 0) pe_int set_list))
      (pss_one (ps_ret (pe_op op_mod (pe_callTy call_int1 (by rfl) T.int (by decide +kernel) (pa_cons (pe_op op_fdiv (pe_ix ix_list (pv 0) pe_int (fun _ _ => rfl)) pe_int) pa_nil)) (pv 1)))))), ?_⟩
    obtain ⟨ns, i, q, sd, hb, hl, h63⟩ := id B
    have hne := B.ne
    have keepB : ∀ {H' : Hp} {i' : Nat} {q' s' : Int}, H' b = some (.lst [.ref l, .int i', .int q', .int s']) → (∀ c, c ≠ b → H' c = H c) → Box H' b l :=
      fun {H' i' q' s'} h1 h2 => ⟨ns, i', q', s', h1, (h2 l hne).trans hl, h63⟩
    refine ⟨fun σ' H' => ∃ (v : Option V) (i' : Nat) (q' s' : Int), σ' = [some (.ref b), some (.int n), v, none] ∧ H' b = some (.lst [.ref l, .int i', .int q', .int s']) ∧ ∀ c, c ≠ b → H' c = H c, ?_, ?_⟩
    · -- a new cell is read, or not
      refine ⟨_, rfl, b, _, _, _, rfl, rfl, SqL.of hb, at_box.2.2.1, _, _, rfl, rfl, _, rfl, ?_⟩
      by_cases c1 : q < 1
      · refine if_t (decide_eq_true c1) ?_
        refine ⟨_, rfl, b, _, _, _, rfl, rfl, SqL.of hb, at_box.2.1, _, rfl, b, _, _, _, rfl, rfl, SqL.of hb, at_box.1, l, _, rfl, .inl (SqL.of hl), _, _, rfl, rfl, _, rfl, ?_⟩
        by_cases c2 : (i : Int) < ((ns.map V.int).length : Int)
        · refine if_t (decide_eq_true c2) ?_
          rw [List.length_map] at c2
          obtain ⟨z, hz⟩ : ∃ z, ns[i]? = some z := ⟨_, List.getElem?_eq_getElem (by omega)⟩
          have hz' : atI (ns.map V.int) (i : Int) = some (V.int z) := atI_nat (by rw [List.getElem?_map, hz]; rfl)
          refine ⟨_, rfl, b, _, _, _, rfl, rfl, SqL.of hb, at_box.1, _, rfl, b, _, _, _, rfl, rfl, SqL.of hb, at_box.2.1, l, _, _, _, rfl, rfl, SqL.of hl, hz', ?_⟩
          refine ⟨_, rfl, b, _, _, _, rfl, rfl, SqL.of hb, at_box.2.1, _, _, rfl, rfl, _, rfl, b, _, _, 1, rfl, rfl, hb, rfl, ?_⟩
          have h1 : ∀ (o : HO), upd H b o b = some o := fun o => upd_same
          have hc : ∀ (o : HO) c, c ≠ b → upd H b o c = H c := fun o c hc => upd_ne hc
          refine ⟨_, rfl, _, _, rfl, rfl, pow18, _, _, rfl, rfl, _, rfl, ?_⟩
          refine ite2 (fun _ => ?_) fun _ => ?_
          · refine ⟨_, rfl, _, _, rfl, rfl, pow18, _, _, rfl, rfl, _, rfl, b, _, _, 2, rfl, rfl, h1 _, rfl, ?_⟩
            exact ⟨some (.int z), i + 1, _, sd, rfl, upd_same, fun c hc' => by rw [upd_ne hc', upd_ne hc']⟩
          · refine ⟨_, rfl, b, _, _, _, rfl, rfl, SqL.of (h1 _), at_box.2.2.2, _, _, rfl, rfl, .inr ⟨by decide, by decide⟩, _, rfl, _, _, rfl, rfl, .inr ⟨by decide, by decide⟩, _, _, rfl, rfl, _, _, rfl, rfl, .inl ⟨_, rfl, _, _, rfl, rfl, (by show (0 : Int) < 2147483647; decide), _, rfl, b, _, _, 3, rfl, rfl, h1 _, rfl, ?_⟩⟩
            exact ⟨some (.int z), i + 1, q, _, rfl, upd_same, fun c hc' => by rw [upd_ne hc', upd_ne hc']⟩
        · refine if_f (decide_eq_false c2) ?_
          exact ⟨none, i, q, sd, rfl, hb, fun _ _ => rfl⟩
      · refine if_f (decide_eq_false c1) ?_
        exact ⟨none, i, q, sd, rfl, hb, fun _ _ => rfl⟩
    · rintro σ' H' ⟨v, i', q', s', rfl, hb', ho⟩
      refine ⟨_, rfl, b, _, _, _, rfl, rfl, SqL.of hb', at_box.2.2.1, _, _, rfl, rfl, _, rfl, ?_⟩
      refine ite2 (fun _ => ?_) fun _ => ?_
      · refine ⟨_, rfl, b, _, _, _, rfl, rfl, SqL.of hb', at_box.2.2.1, .inl ⟨_, rfl, _, rfl, _, _, rfl, rfl, hn0, ?_⟩⟩
        refine ⟨_, rfl, b, _, _, _, rfl, rfl, SqL.of hb', at_box.2.2.1, _, rfl, _, _, rfl, rfl, wide_div hn0 hn1 (by decide) (by decide), _, rfl, b, _, _, 2, rfl, rfl, hb', rfl, _, rfl, ?_⟩
        exact k _ _ (Int.emod_nonneg _ (by omega)) (Int.emod_lt_of_pos _ hn0) (keepB (q' := q' / n) upd_same fun c hc => (upd_ne hc).trans (ho c hc)) fun c hc => (upd_ne hc).trans (ho c hc)
      · refine ⟨_, rfl, b, _, _, _, rfl, rfl, SqL.of hb', at_box.2.2.2, _, _, rfl, rfl, .inr ⟨by decide, by decide⟩, .inl ⟨_, rfl, _, _, rfl, rfl, (by show (0 : Int) < 2147483647; decide), _, rfl, b, _, _, 3, rfl, rfl, hb', rfl, ?_⟩⟩
        refine ⟨_, rfl, b, _, _, _, rfl, rfl, SqL.of upd_same, at_box.2.2.2, _, _, rfl, rfl, ⟨by decide, by decide⟩, .inl ⟨_, rfl, _, rfl, _, _, rfl, rfl, hn0, ?_⟩⟩
        exact k _ _ (Int.emod_nonneg _ (by omega)) (Int.emod_lt_of_pos _ hn0) (keepB upd_same fun c hc => (upd_ne hc).trans (ho c hc)) fun c hc => (upd_ne hc).trans (ho c hc)

theorem cut63 {xs : List V} (h : xs.length ≤ 63) : cutV xs none (some 63) = xs := by
  unfold cutV
  have e0 : HT.sIx xs.length 0 none = 0 := rfl
  have e1 : HT.sIx xs.length xs.length (some 63) = xs.length := by
    unfold HT.sIx
    simp
    omega
  rw [e0, e1, List.drop_zero, Nat.sub_zero, List.take_length]
theorem scBox : FnScope ["_law_script", "_law_cell"] ["_law_script"] (defScope sBox) := ⟨rfl, rfl, rfl, by decide +kernel, rfl, by decide +kernel, by decide +kernel⟩
theorem ok_box {f : Addr} {fd : FuncData} (F : Fun K "_law_box" "_law_box" sBox f fd) (T : BoxTxt K mg) : FnOk P w K mg base CX0 1 f fd ["_law_script"] (spBox K) := by
  refine F.ok scBox (fun vs H Q E h => ?_) (fun cdv A outer s H vs Q E hr h => ?_)
  · obtain ⟨a, ns, rfl, _⟩ := h
    rfl
  · obtain ⟨a, ns, rfl, hS, h63, k⟩ := h
    refine ⟨_, pss_one (ps_ret (pe_lst (pa_cons (pe_lc (own := [("_law_cell", 1)]) (g := gName 1) (tt := tYes) (by rfl) scBox.nd (pi_list (pe_slice sl_list (pv 0) po_none (po_some pe_int)))
        (blkOk_by (own := [("_law_cell", 1)]) (N := ["_law_script", "_law_cell"]) (sc := defScope sBox) (by decide +kernel)) (fun _ _ _ _ _ => pg_name (i := 1) scBox.nd rfl (Or.inl rfl)) (fun _ _ _ _ _ => pts_nil)
        (fun _ _ _ _ _ => pe_callTy call_int1 (by rfl) T.int (by decide +kernel) (pa_cons (pv 1) pa_nil))) (pa_cons pe_int (pa_cons pe_int (pa_cons pe_int pa_nil)))))), ?_⟩
    have e63 : cutV (ns.map V.int) none (some 63) = ns.map V.int := cut63 (by rw [List.length_map]; exact h63)
    refine ⟨_, rfl, 63, rfl, a, _, rfl, hS, fun p hp => ?_⟩
    rw [e63]
    refine ⟨p, rfl, ⟨_, SqL.of upd_same⟩, fun D hD => ?_⟩
    have hpD : p ≠ D := fun z => by
      rw [z, upd_same] at hD
      cases hD
    have hD0 : H D = none := by rw [upd_ne (Ne.symm hpD)] at hD; exact hD
    refine lc_list (K := K) (a := p) (xs := ns.map V.int) (fun i H' => H' D = some (.lst ((ns.take i).map V.int)) ∧ H' p = some (.lst (ns.map V.int)) ∧ ∀ c, c ≠ D → c ≠ p → H' c = H c)
      ⟨upd_same, by rw [upd_ne hpD, upd_same], fun c h1 h2 => by rw [upd_ne h1, upd_ne h2]⟩ (fun i H' _ h => SqL.of h.2.1) ?_ ?_
    · rintro i y H' hi ⟨g1, g2, g3⟩
      obtain ⟨z, hz, rfl⟩ : ∃ z, ns[i]? = some z ∧ y = V.int z := by
        rw [List.getElem?_map] at hi
        cases e : ns[i]? with
        | none =>
          rw [e] at hi
          cases hi
        | some z =>
          rw [e] at hi
          exact ⟨z, rfl, (Option.some.inj hi).symm⟩
      refine ⟨rfl, ?_⟩
      have step : ∃ acc, H' D = some (.lst acc) ∧ acc.length < sizeLine ∧ (upd H' D (.lst (acc ++ [V.int z]))) D = some (.lst ((ns.take (i + 1)).map V.int)) ∧ (upd H' D (.lst (acc ++ [V.int z]))) p = some (.lst (ns.map V.int)) ∧
          ∀ c, c ≠ D → c ≠ p → (upd H' D (.lst (acc ++ [V.int z]))) c = H c := by
        refine ⟨_, g1, ?_, ?_⟩
        · rw [List.length_map, List.length_take]
          exact small1000 (by omega)
        · refine ⟨?_, by rw [upd_ne hpD]; exact g2, fun c h1 h2 => by rw [upd_ne h1]; exact g3 c h1 h2⟩
          rw [upd_same, List.take_succ, hz, Option.toList_some, List.map_append]
          rfl
      exact ⟨V.int z, rfl, .inl ⟨z, rfl, step⟩⟩
    · rintro H' ⟨g1, g2, g3⟩
      rw [List.length_map, List.take_length] at g1
      refine ⟨(by show 4 ≤ sizeLine; decide), fun b hb => ?_⟩
      have hDb : D ≠ b := ne_of_none g1 hb
      have hpb : p ≠ b := ne_of_none g2 hb
      refine k b D _ ⟨ns, 0, 0, 0, upd_same, by rw [upd_ne hDb]; exact g1, h63⟩ (by rw [← g3 b (Ne.symm hDb) (Ne.symm hpb)]; exact hb) hD0 fun c o hc => ?_
      have n1 : c ≠ D := ne_of_none hc hD0
      have n2 : c ≠ p := ne_of_none hc hp
      have n3 : c ≠ b := fun z => by
        rw [z, ← g3 b (Ne.symm hDb) (Ne.symm hpb), hb] at hc
        cases hc
      rw [upd_ne n3, g3 c n1 n2]
      exact hc
end
end Law
namespace Law
open PySem PySem.Spec PyProof.Rows L2 Sup
abbrev sErr : Stmt := inClass (top 4) 0
abbrev sChk : Stmt := top 14
/-- the way out by BadNumber -/
def Bad (C : Addr) (E : XK) (H : Hp) (v : Int) : Prop := ∀ d, H d = none → E (.ref C) (some d) (upd H d (.xd [("value", .int v)]))
def spChk (C : Addr) : Sp := fun vs H Q E => ∃ i : Int, vs = [.int i] ∧ i.natAbs < 2 ^ 1000 ∧ (i < 0 → Bad C E H i) ∧ (0 ≤ i → Q .non H)
theorem log_of {i : Int} {k : Nat} (hk : 0 < k) (h : i.natAbs < 2 ^ k) : i.natAbs.log2 < k := by
  by_cases hz : i.natAbs = 0
  · rw [hz, Nat.log2_zero]
    exact hk
  · exact (Nat.log2_lt hz).mpr h
section
variable {P : Program} {w : World} {K : PySem.W.Frag} {mg : Str → Option Value} {base : Heap} {C : Addr}
theorem scChk : FnScope ["number"] ["number"] (defScope sChk) := ⟨rfl, rfl, rfl, by decide +kernel, rfl, by decide +kernel, by decide +kernel⟩
theorem ok_chk {f : Addr} {fd : FuncData} (F : Fun K "check_not_negative" "check_not_negative" sChk f fd) (R : ErrOk P w K mg base "BadNumber" C "value" okInt) : FnOk P w K mg base (L2.CX P w) 4 f fd ["number"] (spChk C) := by
  refine F.okX scChk (fun vs H Q E h => ?_) (fun cdv A outer s H vs Q E hr h => ?_)
  · obtain ⟨i, rfl, _⟩ := h
    rfl
  · obtain ⟨i, rfl, hi, h1, h2⟩ := h
    refine ⟨_, pss_one (ps_if (pt_cmpR op_lt (pv 0) pe_int (nomark _)) (pss_one (ps_err R rfl (takes_of rfl rfl rfl rfl) hr (pa_cons (pv 0) pa_nil) rfl)) pss_nil), ?_⟩
    refine ⟨_, rfl, _, _, rfl, rfl, _, rfl, ?_⟩
    by_cases c : i < 0
    · refine if_t (decide_eq_true c) ⟨_, rfl, err_way ⟨i, rfl, log_of (by decide) (Nat.lt_of_lt_of_le hi (Nat.pow_le_pow_right (by decide) (by decide)))⟩ (h1 c)⟩
    · exact if_f (decide_eq_false c) (h2 (by omega))
end
def Sz (i : Int) : Prop := i.natAbs < 2 ^ 200
theorem Sz.mul {a b : Int} (ha : a.natAbs < 2 ^ 300) (hb : b.natAbs < 2 ^ 300) : CMulW a b := wide_mul ha hb (by decide) (by decide) (by decide)
theorem Sz.w {a : Int} (ha : Sz a) : a.natAbs < 2 ^ 300 := Nat.lt_of_lt_of_le ha (Nat.pow_le_pow_right (by decide) (by decide))
theorem Sz.t {a : Int} (ha : Sz a) : a.natAbs < 2 ^ 1000 := Nat.lt_of_lt_of_le ha (Nat.pow_le_pow_right (by decide) (by decide))
theorem Sz.of {i : Int} (h : i.natAbs ≤ 10 ^ 42) : Sz i := Nat.lt_of_le_of_lt h (by decide +kernel)
theorem pow_ok {j : Int} (h : 0 ≤ j ∧ j ≤ 1000000) : CPow 10 j := ⟨h.1, h.2, by decide⟩
theorem size_fit {n : Int} (h0 : 0 < n) (h : n ≤ 10 ^ 40) : n.natAbs < 2 ^ 8000 := by
  have h1 : n.natAbs ≤ 10 ^ 40 := by omega
  exact Nat.lt_of_le_of_lt h1 (by decide +kernel)
end Law

namespace Law
open PySem PySem.Spec PyProof.Rows L2 Sup
/-! isinstance of a caught error that has its own dict -/
section
open PySem.W
variable {prog : Program} {w : World} {A : Around} {E : Value → Shared → Prop} {s : Shared} {K : Frag} {x D : Addr} {ox : Obj} {od : Option Obj}
theorem find_data {C : Addr} {nm : Str} {a g : Value} (h1 : (clsIn K C).isSome = true) (h2 : findIn K (.ref C) nm = some (some a)) (h3 : specialIn K a "__get__" = some (some g)) (h4 : takesIn K a = some true) :
    findObj K C od nm = some (.bind g a) := by
  obtain ⟨cd, hcd⟩ := Option.isSome_iff_exists.mp h1
  simp [findObj, hcd, h2, h3, h4]
theorem class_of_err (T : ExcC K D) {Q : Option Value → Shared → Prop} (X : K.In s.heap) (I : InstAt s.heap x ox D od) (h : Q (some (.ref D)) { s with toks := s.toks + 1 }) :
    wpAny (model prog w) A (getAttr? (.ref x) "__class__") Q E s := by
  have isS : (clsIn K D).isSome = true := by
    obtain ⟨cd, hcd, _⟩ := any_some T.hd
    rw [hcd]; rfl
  have hf : findObj K D od "__class__" = some (.bind (.builtin "getset_descriptor.__get__") (.builtin "object.__class__")) :=
    find_data isS T.ha T.hn T.ht
  obtain ⟨hp, g, d, t, os⟩ := s
  have M0 := I.type (M := model prog w)
  have M1 := looks_findIn (M := model prog w) X T.hg
  have M2 := looks_findIn (M := model prog w) X T.hk
  have M3 := looks_find (M := model prog w) X I hf
  have sub : Looks (model prog w) hp (isInstance (.ref x) (.type "BaseException")) true := M0.andThen (looks_subIn X T.hs)
  have n0 : (false && onTheHeap (Value.builtin "BaseException.__getattribute__")) = false := rfl
  have n1 : (onTheHeap (Value.ref D) && Value.builtin "BaseException.__getattribute__" == Value.builtin "object.__getattribute__") = false := by
    have z : (Value.builtin "BaseException.__getattribute__" == Value.builtin "object.__getattribute__") = false := by decide +kernel
    rw [z]; rfl
  unfold getAttr? getAttrBy? getAttrBy
  refine wpAny_bind (wpAny_mkText (wpAny_bind (wpAny_attempt (wpAny_holding (wpAny_bind (M0.at (wpAny_bind (M1.at ?_))))))))
  show wpAny _ _ (if (onTheHeap (Value.ref D) && Value.builtin "BaseException.__getattribute__" == Value.builtin "object.__getattribute__") = true
    then _ else _) _ _ _
  rw [n1, if_neg Bool.false_ne_true]
  unfold getAttrByItsOwn hookBefore
  refine wpAny_bind ?_
  rw [if_pos (show onTheHeap (Value.ref D) = true from rfl)]
  refine M2.at ?_
  refine wpAny_bind (wpAny_attempt (wpAny_holding ?_))
  unfold callGetattribute
  rw [n0, if_neg Bool.false_ne_true]
  unfold boundAndCalled
  rw [PySem.F.excAttr_ValueError.ga.bind (.ref x)]
  refine wpAny_bind (wpAny_pure ?_)
  show wpAny _ _ (call (.builtin "BaseException.__getattribute__")
    [.ref x, .str "__class__" t]) _ _ _
  refine wpAny_call (codeAny_call_builtin PySem.F.excAttr_ValueError.ga.plain PySem.F.entry_bexc_ga ?_)
  refine @check_slot (model prog w) _ _ ⟨hp, g, d, t + 1, os⟩ "BaseException.__getattribute__" "BaseException" "__getattribute__" (.ref x)
    [.str "__class__" t] [] _ (by decide +kernel) (by decide +kernel) sub (PySem.F.args_bexc_ga (.ref x) (.str "__class__" t)) ?_
  unfold Builtin.«object.__getattribute__»
  refine wpAny_bind (wpAny_of_eq (a := ((Value.ref x : Value), [Value.str "__class__" t])) (by first | rfl | (simp only [slotArgs]; rfl)) ?_)
  refine wpAny_bind (wpAny_pure (wpAny_bind (M0.at (wpAny_bind (M3.at ?_)))))
  show wpAny _ _ (holding [Value.builtin "object.__class__"] (call (.builtin "getset_descriptor.__get__")
    [.builtin "object.__class__", .ref x, .ref D]) >>= ret) _ _ _
  refine wpAny_bind (wpAny_holding (wpAny_call (class_get (s := ⟨hp, g, d, t + 1, os⟩) (ox := ox) (od := od) X I T.hm ?_)))
  refine wpAny_pure ?_
  show wpAny _ _ (handedOut (.ref D)) _ _ _
  rw [handedOut_of (v := .ref D) rfl]
  first
    | exact wpAny_pure (wpAny_pure h)
    | exact wpAny_pure h
    | exact wpAny_pure (wpAny_bind (wpAny_pure (wpAny_pure h)))
theorem kit_err (T : ExcC K D) : KitX K (.ref x) (.ref D) (fun h => ∃ od, InstAt h x ox D od) where
  ty := fun _ _ _ ⟨_, I⟩ => I.type
  it := fun _ _ X _ => by
    obtain ⟨cdD, hcD, _⟩ := any_some T.hd
    unfold clsIn at hcD
    split at hcD
    · rename_i ho
      intro A' Q' E' s' k q
      unfold isType loadHead
      exact wpAny_bind (wpAny_loadPart (k _ _ (X _ _ ho)) (wpAny_pure q))
    · cases hcD
  ne := fun h tp dd its n sl X htp => by
    obtain ⟨cdD, hcD, _⟩ := any_some T.hd
    unfold clsIn at hcD
    split at hcD
    · rename_i ho
      refine Bool.eq_false_iff.mpr fun q => ?_
      have e : D = tp := Value.ref.inj (beq_iff_eq.mp q)
      subst e
      have z := (X _ _ ho).symm.trans htp
      cases z
    · cases hcD
  ca := fun X I k => by
    obtain ⟨od, I⟩ := I
    exact class_of_err T X I k
end
/-- isinstance(e, c), e the exception that the suite holds, its own dict at d -/
def rIsD (K : PySem.W.Frag) (D a : Addr) (cls : Value) (d : Option Addr) : List V → Hp → VK → Prop := fun xs H Q =>
  ∃ (c : V) (cv : Value) (b : Bool) (dd : Addr) (fs : List (Str × V)), xs = [.ref a, c] ∧ cls = .ref D ∧ d = some dd ∧ H dd = some (.xd fs) ∧ (∀ u, RelV c u → u = cv) ∧ PySem.W.kitOne K (.ref D) cv = some b ∧ Q (.bl b) H
theorem call_isD {X : Cx} {a D : Addr} {oe : Obj} {cls : Value} {d : Option Addr} {pn : List (Addr × Obj)} (T : ExcC X.K D) (hz : Zc cls d oe) (hf : ∃ vs, oe.data = .fields vs) :
    CallR (X.suite a ((a, oe) :: pn)) (.builtin "isinstance") (rIsD X.K D a cls d) := by
  intro pins s σ H xs us Q I r h
  obtain ⟨c, cv, b, dd, fs, rfl, rfl, rfl, hd, hcv, e, q⟩ := h
  cases r with
  | cons rx rr =>
    cases rr with
    | cons rt rr =>
      cases rr
      cases rx
      have ec := hcv _ rt
      subst ec
      obtain ⟨hget, _⟩ := I.pin (a, oe) (List.mem_append.mpr (.inl List.mem_cons_self))
      obtain ⟨vs, hv⟩ := hf
      obtain ⟨mA, hns, _⟩ := (show ObjOk X.prog X.w H s.heap dd (.xd fs) from I.hok dd _ hd)
      obtain ⟨ob, ho, _⟩ := lookIn_ns hns
      have J : ∃ od, PySem.W.InstAt s.heap a oe D od := ⟨some ob, hget, hz.1, by unfold PySem.W.notCls; rw [hv], by rw [hz.2]; exact ho⟩
      exact PySem.W.kia_one (kit_err T) I.kIn J e (fun z => nomatch z) fun tk => ⟨.bl b, H, I.kept (t' := tk) fun _ _ z => z, rfl, q⟩
end Law

namespace Law
open PySem PySem.Spec PyProof.Rows L2 Sup
abbrev sCkn : Stmt := top 13
abbrev sRini : Stmt := inClass (top 18) 0
abbrev sPut : Stmt := inClass (top 18) 1
abbrev sNms : Stmt := inClass (top 18) 2
abbrev sLof : Stmt := inClass (top 18) 3
abbrev sLen : Stmt := inClass (top 18) 7
abbrev sCon : Stmt := inClass (top 18) 8
def letters : Str := "abcdefghijklmnopqrstuvwxyz"
/-- a name that breaks the rule for names -/
def badN (y : Str) : Bool := decide (y.length < 1) || decide (12 < y.length) || y.cps.toList.any fun c => !decide (c ∈ letters.cps.toList)
/-- a text that errors may tell -/
def Fit (y : Str) : Prop := y.length ≤ 60 ∧ ∀ c ∈ y.cps.toList, c < 1114112
theorem Fit.ok {y : Str} (h : Fit y) : okTxt (.str y) := ⟨y, rfl, by
  have := StrLaws.reprText_len y fun c hc => Nat.lt_of_lt_of_le (h.2 c hc) (by decide)
  have := h.1
  omega⟩
/-- the way out by an own error with one field, from a heap in which all stands as it stood -/
def BadX (C : Addr) (fl : Str) (E : XK) (H : Hp) (v : V) : Prop := ∀ (H' : Hp) (d : Addr), Same H H' → H' d = none → E (.ref C) (some d) (upd H' d (.xd [(fl, v)]))
abbrev Row := Str × Int
def kvs (rows : List Row) : List (Key × V) := rows.map fun p => (.inr p.1, .int p.2)
def known (rows : List Row) (y : Str) : Bool := (rows.map (·.1)).contains y
/-- a rack of the class at CR, its dict at d, with these ladders -/
def Rck (CR : Addr) (H : Hp) (r d : Addr) (rows : List Row) : Prop := (∃ dx fs, H r = some (.ins CR dx fs) ∧ fs.lookup ("_lengths" : Str) = some (V.ref d) ∧ ∀ m : Str, m ≠ "_lengths" → fs.lookup m = none) ∧ H d = some (.dK (kvs rows))
theorem Rck.ne {CR : Addr} {H : Hp} {r d : Addr} {rows : List Row} (h : Rck CR H r d rows) : r ≠ d := fun z => by
  obtain ⟨⟨dx, fs, h1, _⟩, h2⟩ := h
  rw [z, h2] at h1
  cases h1
theorem Rck.same {CR : Addr} {H H' : Hp} {r d : Addr} {rows : List Row} (h : Rck CR H r d rows) (s : Same H H') : Rck CR H' r d rows := by
  obtain ⟨⟨dx, fs, h1, h2⟩, h3⟩ := h
  exact ⟨⟨dx, fs, s _ _ h1, h2⟩, s _ _ h3⟩
theorem Rck.put {CR : Addr} {H : Hp} {r d : Addr} {rows rows' : List Row} (h : Rck CR H r d rows) : Rck CR (upd H d (.dK (kvs rows'))) r d rows' := by
  have n := h.ne
  obtain ⟨⟨dx, fs, h1, h2⟩, h3⟩ := h
  exact ⟨⟨dx, fs, by rw [upd_ne n]; exact h1, h2⟩, upd_same⟩
theorem val_kvs (y : Str) : ∀ rows : List Row, valV (kvs rows) (.inr y) = (rows.lookup y).map V.int
  | [] => rfl
  | (x, L) :: r => by
    have ih := val_kvs y r
    show valV ((.inr x, V.int L) :: kvs r) (.inr y) = _
    by_cases e : x = y
    · subst e
      rw [valV_pos rfl]
      simp [List.lookup]
    · rw [valV_neg (fun z => e (Sum.inr.inj z)), ih]
      have q : (y == x) = false := by simpa using fun z => e z.symm
      simp [List.lookup, q]
theorem known_iff (y : Str) : ∀ rows : List Row, known rows y = (rows.lookup y).isSome
  | [] => rfl
  | (x, L) :: r => by
    have ih := known_iff y r
    unfold known at ih ⊢
    rw [List.map_cons, List.contains_cons]
    by_cases e : y = x
    · subst e
      simp [List.lookup]
    · have q : (y == x) = false := by simpa using e
      rw [q, Bool.false_or, ih]
      simp [List.lookup, q]
theorem put_kvs {rows : List Row} {y : Str} (L : Int) (h : known rows y = false) : putK (kvs rows) (.inr y) (.int L) = kvs (rows ++ [(y, L)]) := by
  rw [known_iff] at h
  rw [putK_new _ (by rw [val_kvs]; cases e : rows.lookup y with | none => rfl | some v => rw [e] at h; cases h)]
  unfold kvs
  rw [List.map_append]
  rfl
/-- the first error that is due where a ladder is put -/
inductive Due where
  | name | taken | number | many | put
  deriving DecidableEq
def due (rows : List Row) (y : Str) (L : Int) : Due := if badN y = true then .name else if known rows y = true then .taken else if L < 0 then .number else if 8 ≤ rows.length then .many else .put
structure Errs where
  N : Addr
  T : Addr
  B : Addr
  M : Addr
  U : Addr
/-- the same, from any heap of which S is true -/
def BadW (S : Hp → Prop) (C : Addr) (fl : Str) (E : XK) (v : V) : Prop := ∀ (H' : Hp) (d : Addr), S H' → H' d = none → E (.ref C) (some d) (upd H' d (.xd [(fl, v)]))
def RefusedW (S : Hp → Prop) (C : Errs) (E : XK) (rows : List Row) (y : Str) (L : Int) : Prop := (due rows y L = .name → BadW S C.N "name" E (.str y)) ∧ (due rows y L = .taken → BadW S C.T "name" E (.str y)) ∧
  (due rows y L = .number → BadW S C.B "value" E (.int L)) ∧ (due rows y L = .many → BadW S C.M "count" E (.int ((rows.length : Int) + 1)))
def Refused (C : Errs) (E : XK) (H : Hp) (rows : List Row) (y : Str) (L : Int) : Prop := (due rows y L = .name → BadX C.N "name" E H (.str y)) ∧ (due rows y L = .taken → BadX C.T "name" E H (.str y)) ∧
  (due rows y L = .number → BadX C.B "value" E H (.int L)) ∧ (due rows y L = .many → BadX C.M "count" E H (.int ((rows.length : Int) + 1)))
theorem RefusedW.at {S : Hp → Prop} {C : Errs} {E : XK} {H : Hp} {rows : List Row} {y : Str} {L : Int} (h : RefusedW S C E rows y L) (k : ∀ H', Same H H' → S H') : Refused C E H rows y L :=
  ⟨fun c H' d s hd => h.1 c H' d (k H' s) hd, fun c H' d s hd => h.2.1 c H' d (k H' s) hd, fun c H' d s hd => h.2.2.1 c H' d (k H' s) hd, fun c H' d s hd => h.2.2.2 c H' d (k H' s) hd⟩
/-- the first ladder that is refused where they are put one by one, with those put ahead of it -/
def firstBad : List Row → List Row → Option (List Row × Str × Int)
  | _, [] => none
  | acc, (y, L) :: r => if due acc y L = .put then firstBad (acc ++ [(y, L)]) r else some (acc, y, L)
/-- all but x and d stands as it stood -/
def But (x d : Addr) (H : Hp) : Hp → Prop := fun H' => ∀ b o, b ≠ x → b ≠ d → H b = some o → H' b = some o
def spRini (C : Errs) (CR : Addr) : Sp := fun vs H Q E => ∃ (x dx d0 : Addr) (rows : List Row), vs = [.ref x, .ref d0] ∧ H x = some (.ins CR dx []) ∧ H d0 = some (.dK (kvs rows)) ∧ rows.length ≤ 60 ∧ (∀ p ∈ rows, Fit p.1 ∧ p.2.natAbs < 2 ^ 1000) ∧
  (8 < rows.length → BadW (But x d0 H) C.M "count" E (.int rows.length)) ∧ (rows.length ≤ 8 → (∀ acc y L, firstBad [] rows = some (acc, y, L) → RefusedW (But x d0 H) C E acc y L) ∧
    (firstBad [] rows = none → ∀ d H', H d = none → Rck CR H' x d rows → But x d0 H H' → Q .non H'))
def spCkn (C : Errs) : Sp := fun vs H Q E => ∃ y : Str, vs = [.str y] ∧ Fit y ∧ (badN y = true → BadX C.N "name" E H (.str y)) ∧ (badN y = false → Q .non H)
def spPut (C : Errs) (CR : Addr) : Sp := fun vs H Q E => ∃ (r d : Addr) (rows : List Row) (y : Str) (L : Int), vs = [.ref r, .str y, .int L] ∧ Rck CR H r d rows ∧ rows.length ≤ 60 ∧ Fit y ∧ L.natAbs < 2 ^ 1000 ∧ Refused C E H rows y L ∧
  (due rows y L = .put → Q .non (upd H d (.dK (kvs (rows ++ [(y, L)])))))
def spNms (CR : Addr) : Sp := fun vs H Q _ => ∃ (r d : Addr) (rows : List Row), vs = [.ref r] ∧ Rck CR H r d rows ∧ ∀ p, H p = none → Q (.ref p) (upd H p (.lst (rows.map fun x => V.str x.1)))
def spLof (C : Errs) (CR : Addr) : Sp := fun vs H Q E => ∃ (r d : Addr) (rows : List Row) (y : Str), vs = [.ref r, .str y] ∧ Rck CR H r d rows ∧ Fit y ∧ (rows.lookup y = none → BadX C.U "name" E H (.str y)) ∧ (∀ L, rows.lookup y = some L → Q (.int L) H)
def spLen (CR : Addr) : Sp := fun vs H Q _ => ∃ (r d : Addr) (rows : List Row), vs = [.ref r] ∧ Rck CR H r d rows ∧ Q (.int rows.length) H
def spCon (CR : Addr) : Sp := fun vs H Q _ => ∃ (r d : Addr) (rows : List Row) (y : Str), vs = [.ref r, .str y] ∧ Rck CR H r d rows ∧ Q (.bl (known rows y)) H
structure RackTxt (K : PySem.W.Frag) (mg : Str → Option Value) (CR fN fK : Addr) : Prop where
  letters : ∃ t, mg "LETTERS" = some (.str letters t)
  longest : ∃ t, mg "LONGEST_NAME" = some (.int 12 t)
  most : ∃ t, mg "MOST_LADDERS" = some (.int 8 t)
  ckn : mg "check_name" = some (.ref fN)
  chk : mg "check_not_negative" = some (.ref fK)
  len : mg "len" = none
  list : mg "list" = none
  cl : Cls K CR
  nD : NoAttr K CR "_lengths"
section
variable {P : Program} {w : World} {K : PySem.W.Frag} {mg : Str → Option Value} {base : Heap} {C : Errs} {CR fN fK : Addr}
theorem scCkn : FnScope ["name", "letter"] ["name"] (defScope sCkn) := ⟨rfl, rfl, rfl, by decide +kernel, rfl, by decide +kernel, by decide +kernel⟩
theorem ok_ckn {f : Addr} {fd : FuncData} (F : Fun K "check_name" "check_name" sCkn f fd) (RN : ErrOk P w K mg base "BadName" C.N "name" okTxt) (T : RackTxt K mg CR fN fK) : FnOk P w K mg base (L2.CX P w) 4 f fd ["name"] (spCkn C) := by
  obtain ⟨t1, T1⟩ := T.letters
  obtain ⟨t2, T2⟩ := T.longest
  refine F.okX scCkn (fun vs H Q E h => ?_) (fun cdv A outer s H vs Q E hr h => ?_)
  · obtain ⟨y, rfl, _⟩ := h
    rfl
  · obtain ⟨y, rfl, fy, h1, h2⟩ := h
    have hr3 : Room 3 _ := hr
    refine ⟨_, (pss_cons (ps_if (pt_not (pt_chain op_le op_le pe_int (pe_callB call_len_str (by rfl) T.len PySem.boot_len (pa_cons (pv 0) pa_nil)) (pe_glob (v := .int 12) rfl T2 ⟨_, rfl⟩))) (pss_one (ps_err RN rfl (takes_of rfl rfl rfl rfl) hr3 (pa_cons (pv 0) pa_nil) rfl)) pss_nil)
      (pss_one (ps_for (passes_of rfl) rfl (pi_str (pv 0)) (pg_name (i := 1) scCkn.nd rfl (Or.inl rfl)) (pss_one (ps_if (pt_cmpR op_notIn_sign (pv 1) (pe_glob (v := .str letters) rfl T1 ⟨_, rfl⟩) rfl) (pss_one (ps_err RN rfl (takes_of rfl rfl rfl rfl) hr3 (pa_cons (pv 0) pa_nil) rfl)) pss_nil))))), ?_⟩
    have way : badN y = true → okTxt (.str y) ∧ ∀ d, H d = none → E (.ref C.N) (some d) (upd H d (.xd [("name", .str y)])) := fun hb => ⟨fy.ok, fun d hd => h1 hb H d (fun _ _ e => e) hd⟩
    refine ⟨_, rfl, y, rfl, by have := fy.1; rw [sizeLine_eq]; omega, _, _, rfl, rfl, _, rfl, ?_⟩
    by_cases c0 : (1 : Int) ≤ (y.length : Int)
    · refine if_t (decide_eq_true c0) ⟨_, _, rfl, rfl, _, rfl, ?_⟩
      by_cases c1 : (y.length : Int) ≤ 12
      · refine if_f (by rw [decide_eq_true c1]; rfl) ?_
        have e0 : decide (y.length < 1) = false := decide_eq_false (by omega)
        have e1 : decide (12 < y.length) = false := decide_eq_false (by omega)
        refine ⟨_, rfl, y, rfl, for_it walk_str (fun i σ' H' => ∃ v : Option V, σ' = [some (.str y), v] ∧ H' = H ∧ (y.cps.toList.take i).any (fun c => !decide (c ∈ letters.cps.toList)) = false) ⟨_, rfl, rfl, by simp⟩ (fun _ _ _ _ _ => True.intro) ?_ ?_⟩
        · rintro i x σ' H' H'' hi ⟨v, rfl, rfl, ha⟩ ⟨rfl, c, hc, rfl⟩
          have hc' : y.cps.toList[i]? = some c := by rw [← hc]; simp
          refine ⟨_, rfl, c, letters, rfl, rfl, _, rfl, ?_⟩
          by_cases cl : c ∈ letters.cps.toList
          · refine if_f (by rw [decide_eq_true cl]; rfl) ⟨_, rfl, rfl, ?_⟩
            rw [List.take_succ, hc', Option.toList_some, List.any_append, ha, List.any_cons, decide_eq_true cl]
            rfl
          · refine if_t (by rw [decide_eq_false cl]; rfl) ⟨_, rfl, ?_⟩
            obtain ⟨z1, z2⟩ := way (by
              unfold badN
              have : y.cps.toList.any (fun c => !decide (c ∈ letters.cps.toList)) = true := List.any_eq_true.mpr ⟨c, List.mem_of_getElem? hc', by simp [cl]⟩
              rw [this, Bool.or_true])
            exact err_way z1 z2
        · rintro σ' H' ⟨v, rfl, rfl, ha⟩
          refine h2 ?_
          unfold badN
          rw [e0, e1]
          rw [List.take_of_length_le (by simp)] at ha
          rw [ha]
          rfl
      · refine if_t (by rw [decide_eq_false c1]; rfl) ⟨_, rfl, ?_⟩
        obtain ⟨z1, z2⟩ := way (by
          unfold badN
          rw [decide_eq_true (show 12 < y.length by omega), Bool.or_true, Bool.true_or])
        exact err_way z1 z2
    · refine if_f (decide_eq_false c0) ⟨_, rfl, ?_⟩
      refine if_t rfl ⟨_, rfl, ?_⟩
      obtain ⟨z1, z2⟩ := way (by
        unfold badN
        rw [decide_eq_true (show y.length < 1 by omega), Bool.true_or, Bool.true_or])
      exact err_way z1 z2
theorem scPut : FnScope ["self", "name", "length"] ["self", "name", "length"] (defScope sPut) := ⟨rfl, rfl, rfl, by decide +kernel, rfl, by decide +kernel, by decide +kernel⟩
theorem ok_put {f : Addr} {fd fdN fdK : FuncData} (F : Fun K "put" "Rack.put" sPut f fd) (RN : ErrOk P w K mg base "BadName" C.N "name" okTxt) (RT : ErrOk P w K mg base "TakenName" C.T "name" okTxt) (RB : ErrOk P w K mg base "BadNumber" C.B "value" okInt) (RM : ErrOk P w K mg base "TooMany" C.M "count" okInt)
    (FN : Fun K "check_name" "check_name" sCkn fN fdN) (bN : Binds K fdN ["name"] []) (FK : Fun K "check_not_negative" "check_not_negative" sChk fK fdK) (bK : Binds K fdK ["number"] []) (T : RackTxt K mg CR fN fK) : FnOk P w K mg base (L2.CX P w) 5 f fd ["self", "name", "length"] (spPut C CR) := by
  have GN : FnOk P w K mg base (L2.CX P w) 4 fN fdN ["name"] (spCkn C) := ok_ckn FN RN T
  have GK : FnOk P w K mg base (L2.CX P w) 4 fK fdK ["number"] (spChk C.B) := ok_chk FK RB
  obtain ⟨t3, T3⟩ := T.most
  refine F.okX scPut (fun vs H Q E h => ?_) (fun cdv A outer s H vs Q E hr h => ?_)
  · obtain ⟨r, d, rows, y, L, rfl, _⟩ := h
    rfl
  · obtain ⟨r, d, rows, y, L, rfl, hR, h60, fy, sL, ⟨r1, r2, r3, r4⟩, k⟩ := h
    have hr3 : Room 3 _ := hr.mono (by decide)
    refine ⟨_, (pss_cons (ps_expr (pe_call (E := E) GN hr rfl T.ckn FN.kp bN .nil (passes_call (takes_of rfl rfl rfl rfl) fun _ _ _ _ z => z) (pa_cons (pv 1) pa_nil)))
      (pss_cons (ps_if (pt_cmp (pc_din (hu_of hr) (pv 1) (pe_fld (pv 0) rfl))) (pss_one (ps_err RT rfl (takes_of rfl rfl rfl rfl) hr3 (pa_cons (pv 1) pa_nil) rfl)) pss_nil)
      (pss_cons (ps_expr (pe_call (E := E) GK hr rfl T.chk FK.kp bK .nil (passes_call (takes_of rfl rfl rfl rfl) fun _ _ _ _ z => z) (pa_cons (pv 2) pa_nil)))
      (pss_cons (ps_if (pt_cmpR op_ge (pe_callB call_lenD (by rfl) T.len PySem.boot_len (pa_cons (pe_fld (pv 0) rfl) pa_nil)) (pe_glob (v := .int 8) rfl T3 ⟨_, rfl⟩) (nomark _)) (pss_one (ps_err RM rfl (takes_of rfl rfl rfl rfl) hr3 (pa_cons (pe_op op_add (pe_callB call_lenD (by rfl) T.len PySem.boot_len (pa_cons (pe_fld (pv 0) rfl) pa_nil)) pe_int) pa_nil) rfl)) pss_nil)
      (pss_one (ps_dput (hu_of hr) (pe_fld (pv 0) rfl) (pv 1) (pv 2) rfl)))))), ?_⟩
    obtain ⟨⟨dx, fs, h1, h2, _⟩, h3⟩ := id hR
    refine ⟨_, rfl, y, rfl, fy, fun hb => r1 (by unfold due; rw [if_pos hb]), fun hb => ?_⟩
    have hb' : ¬ (badN y = true) := by rw [hb]; decide
    refine ⟨_, rfl, _, rfl, r, CR, dx, fs, _, rfl, h1, T.cl, T.nD, h2, d, _, rfl, DGet.k (k := .inr y) h3, _, rfl, ?_⟩
    rw [val_kvs, Option.isSome_map, ← known_iff]
    by_cases hk : known rows y = true
    · refine if_t hk ⟨_, rfl, ?_⟩
      exact err_way fy.ok fun d' hd' => r2 (by unfold due; rw [if_neg hb', if_pos hk]) H d' (fun _ _ e => e) hd'
    · have hk' : known rows y = false := by simpa using hk
      refine if_f hk' ?_
      refine ⟨_, rfl, L, rfl, sL, fun c d' hd' => r3 (by unfold due; rw [if_neg hb', if_neg hk, if_pos c]) H d' (fun _ _ e => e) hd', fun c => ?_⟩
      have c' : ¬ L < 0 := by omega
      refine ⟨_, rfl, r, CR, dx, fs, _, rfl, h1, T.cl, T.nD, h2, d, _, rfl, h3, _, _, rfl, rfl, _, rfl, ?_⟩
      have lk : (kvs rows).length = rows.length := by unfold kvs; rw [List.length_map]
      rw [lk]
      by_cases c8 : (8 : Int) ≤ (rows.length : Int)
      · refine if_t (decide_eq_true c8) ⟨_, rfl, r, CR, dx, fs, _, rfl, h1, T.cl, T.nD, h2, d, _, rfl, h3, _, _, rfl, rfl, ?_⟩
        rw [lk]
        have m8 : due rows y L = .many := by unfold due; rw [if_neg hb', if_neg hk, if_neg c', if_pos (by omega)]
        exact err_way ⟨_, rfl, log_of (by decide) (Nat.lt_of_le_of_lt (show ((rows.length : Int) + 1).natAbs ≤ 61 by omega) (by decide +kernel))⟩ fun d' hd' => r4 m8 H d' (fun _ _ e => e) hd'
      · refine if_f (decide_eq_false c8) ?_
        refine ⟨_, rfl, _, rfl, r, CR, dx, fs, _, rfl, h1, T.cl, T.nD, h2, _, rfl, d, _, rfl, DPut.k (k := .inr y) h3 (by rw [lk]; exact small1000 (by omega)), ?_⟩
        rw [put_kvs L hk']
        exact k (by unfold due; rw [if_neg hb', if_neg hk, if_neg c', if_neg (by omega)])
theorem scNms : FnScope ["self"] ["self"] (defScope sNms) := ⟨rfl, rfl, rfl, by decide +kernel, rfl, by decide +kernel, by decide +kernel⟩
theorem ok_nms {f : Addr} {fd : FuncData} (F : Fun K "names" "Rack.names" sNms f fd) (T : RackTxt K mg CR fN fK) : FnOk P w K mg base CX0 1 f fd ["self"] (spNms CR) := by
  refine F.ok scNms (fun vs H Q E h => ?_) (fun cdv A outer s H vs Q E hr h => ?_)
  · obtain ⟨r, d, rows, rfl, _⟩ := h
    rfl
  · obtain ⟨r, d, rows, rfl, hR, k⟩ := h
    refine ⟨_, (pss_one (ps_ret (pe_callTy (call_listD rfl) (by rfl) T.list (by decide +kernel) (pa_cons (pe_fld (pv 0) rfl) pa_nil)))), ?_⟩
    obtain ⟨⟨dx, fs, h1, h2, _⟩, h3⟩ := id hR
    refine ⟨_, rfl, r, CR, dx, fs, _, rfl, h1, T.cl, T.nD, h2, d, _, rfl, .inl h3, fun p hp => ?_⟩
    have e : (kvs rows).map (fun kv => kV kv.1) = rows.map fun x => V.str x.1 := by
      unfold kvs
      rw [List.map_map]
      rfl
    rw [e]
    exact k p hp
theorem scLof : FnScope ["self", "name"] ["self", "name"] (defScope sLof) := ⟨rfl, rfl, rfl, by decide +kernel, rfl, by decide +kernel, by decide +kernel⟩
theorem ok_lof {f : Addr} {fd : FuncData} (F : Fun K "length_of" "Rack.length_of" sLof f fd) (RU : ErrOk P w K mg base "UnknownName" C.U "name" okTxt) (T : RackTxt K mg CR fN fK) : FnOk P w K mg base (L2.CX P w) 4 f fd ["self", "name"] (spLof C CR) := by
  refine F.okX scLof (fun vs H Q E h => ?_) (fun cdv A outer s H vs Q E hr h => ?_)
  · obtain ⟨r, d, rows, y, rfl, _⟩ := h
    rfl
  · obtain ⟨r, d, rows, y, rfl, hR, fy, k1, k2⟩ := h
    have hr3 : Room 3 _ := hr
    refine ⟨_, (pss_cons (ps_if (pt_cmp (pc_dnotin (hu_of hr) (pv 1) (pe_fld (pv 0) rfl))) (pss_one (ps_err RU rfl (takes_of rfl rfl rfl rfl) hr3 (pa_cons (pv 1) pa_nil) rfl)) pss_nil)
      (pss_one (ps_ret (pe_dget (hu_of hr) (pe_fld (pv 0) rfl) (pv 1) (fun _ _ => rfl))))), ?_⟩
    obtain ⟨⟨dx, fs, h1, h2, _⟩, h3⟩ := id hR
    refine ⟨_, rfl, _, rfl, r, CR, dx, fs, _, rfl, h1, T.cl, T.nD, h2, d, _, rfl, DGet.k (k := .inr y) h3, _, rfl, ?_⟩
    have ev := val_kvs y rows
    cases e : rows.lookup y with
    | none =>
      rw [e] at ev
      rw [ev]
      refine if_t rfl ⟨_, rfl, ?_⟩
      exact err_way fy.ok fun d' hd' => k1 e H d' (fun _ _ e => e) hd'
    | some L =>
      rw [e] at ev
      rw [ev]
      refine if_f rfl ?_
      refine ⟨_, rfl, r, CR, dx, fs, _, rfl, h1, T.cl, T.nD, h2, _, rfl, d, _, rfl, ?_, k2 L e⟩
      have z := DGet.k (k := .inr y) h3
      rw [ev] at z
      exact z
theorem scLen : FnScope ["self"] ["self"] (defScope sLen) := ⟨rfl, rfl, rfl, by decide +kernel, rfl, by decide +kernel, by decide +kernel⟩
theorem ok_len {f : Addr} {fd : FuncData} (F : Fun K "__len__" "Rack.__len__" sLen f fd) (T : RackTxt K mg CR fN fK) : FnOk P w K mg base CX0 1 f fd ["self"] (spLen CR) := by
  refine F.ok scLen (fun vs H Q E h => ?_) (fun cdv A outer s H vs Q E hr h => ?_)
  · obtain ⟨r, d, rows, rfl, _⟩ := h
    rfl
  · obtain ⟨r, d, rows, rfl, hR, k⟩ := h
    refine ⟨_, (pss_one (ps_ret (pe_callB call_lenD (by rfl) T.len PySem.boot_len (pa_cons (pe_fld (pv 0) rfl) pa_nil)))), ?_⟩
    obtain ⟨⟨dx, fs, h1, h2, _⟩, h3⟩ := id hR
    refine ⟨_, rfl, r, CR, dx, fs, _, rfl, h1, T.cl, T.nD, h2, d, _, rfl, h3, ?_⟩
    have lk : (kvs rows).length = rows.length := by unfold kvs; rw [List.length_map]
    rw [lk]
    exact k
theorem scCon : FnScope ["self", "name"] ["self", "name"] (defScope sCon) := ⟨rfl, rfl, rfl, by decide +kernel, rfl, by decide +kernel, by decide +kernel⟩
theorem ok_con {f : Addr} {fd : FuncData} (F : Fun K "__contains__" "Rack.__contains__" sCon f fd) (T : RackTxt K mg CR fN fK) : FnOk P w K mg base CX0 1 f fd ["self", "name"] (spCon CR) := by
  refine F.ok scCon (fun vs H Q E h => ?_) (fun cdv A outer s H vs Q E hr h => ?_)
  · obtain ⟨r, d, rows, y, rfl, _⟩ := h
    rfl
  · obtain ⟨r, d, rows, y, rfl, hR, k⟩ := h
    refine ⟨_, (pss_one (ps_ret (pe_cmp (pc_din (hu_of hr) (pv 1) (pe_fld (pv 0) rfl)) rfl))), ?_⟩
    obtain ⟨⟨dx, fs, h1, h2, _⟩, h3⟩ := id hR
    refine ⟨_, rfl, _, rfl, r, CR, dx, fs, _, rfl, h1, T.cl, T.nD, h2, d, _, rfl, DGet.k (k := .inr y) h3, ?_⟩
    rw [val_kvs, Option.isSome_map, ← known_iff]
    exact k
theorem scRini : FnScope ["self", "lengths", "name", "length"] ((["self"] : List Str) ++ ([("lengths" : Str)] : List Str)) (defScope sRini) := ⟨rfl, rfl, rfl, by decide +kernel, rfl, by decide +kernel, by decide +kernel⟩
theorem ok_rini {f fP : Addr} {fd fdP : FuncData} {ks : List Str} (F : Fun K "__init__" "Rack.__init__" sRini f fd) (RM : ErrOk P w K mg base "TooMany" C.M "count" okInt) (GP : FnOk P w K mg base (L2.CX P w) 5 fP fdP ["self", "name", "length"] (spPut C CR)) (MP : Meth K CR "put" fP) (bP : Binds K fdP ["self", "name", "length"] [])
    (hks : ks.Nodup) (hk60 : ks.length ≤ 60)
    (hb : ∀ us ws : List Value, us.length = 1 → ws.length = ks.length → bindArgs fd ⟨us, ks.zip ws⟩ =
      ((alloc ({ cls := .type "dict", data := .dict #[] } : Obj) : Sem Addr) >>= fun d => (forIn (ks.zip ws) PUnit.unit fun x _ => (nsSet d x.1 x.2 >>= fun _ => pure (ForInStep.yield PUnit.unit))) >>= fun _ => pure ((["self"] : List Str).zip us ++ [(("lengths" : Str), Value.ref d)])))
    (T : RackTxt K mg CR fN fK) : KwX.FnKw P w K mg base (L2.CX P w) 6 f ks (spRini C CR) := by
  obtain ⟨oc, od, kVx, doc, pm, an, cdv, ct, osl, rfl, lk, hcd⟩ := F.ex
  obtain ⟨t3, T3⟩ := T.most
  refine KwX.fn_kw (ps := ["self"]) (pd := "lengths") (sp := spRini C CR) (k := 5) lk hcd scRini StX.cxUp hks hk60 (fun vs H Q E h => ?_) hb fun A outer s H vs Q E hr h => ?_
  · obtain ⟨x, dx, d0, rows, rfl, _⟩ := h
    rfl
  · obtain ⟨x, dx, d0, rows, rfl, hx, hd0, h60, hall, h1, h2⟩ := h
    have hr3 : Room 3 _ := hr.mono (by decide)
    refine ⟨_, (pss_cons (ps_if (pt_cmpR op_gt (pe_callB call_lenD (by rfl) T.len PySem.boot_len (pa_cons (pv 1) pa_nil)) (pe_glob (v := .int 8) rfl T3 ⟨_, rfl⟩) (nomark _)) (pss_one (ps_err RM rfl (takes_of rfl rfl rfl rfl) hr3 (pa_cons (pe_callB call_lenD (by rfl) T.len PySem.boot_len (pa_cons (pv 1) pa_nil)) pa_nil) rfl)) pss_nil)
      (pss_cons (ps_fld (pv 0) pe_dnewK rfl)
      (pss_one (ps_lock (ps_for (passes_of rfl) rfl (pi_items (pv 1)) (pg_tup (by rfl) (pgs_cons (pg_name (i := 2) scRini.nd rfl (Or.inl rfl)) (pgs_cons (pg_name (i := 3) scRini.nd rfl (Or.inl rfl)) pgs_nil))) (pss_one (ps_expr (pe_meth (pv 0) T.cl MP GP hr bP .nil (passes_call (takes_of rfl rfl rfl rfl) fun _ _ _ _ z => z) (pa_cons (pv 2) (pa_cons (pv 3) pa_nil)))))))))), ?_⟩
    have lk : (kvs rows).length = rows.length := by unfold kvs; rw [List.length_map]
    have nxd : x ≠ d0 := fun z => by
      rw [z, hd0] at hx
      cases hx
    refine ⟨_, rfl, d0, _, rfl, hd0, _, _, rfl, rfl, _, rfl, ?_⟩
    rw [lk]
    by_cases c8 : (8 : Int) < (rows.length : Int)
    · refine if_t (decide_eq_true c8) ⟨_, rfl, d0, _, rfl, hd0, ?_⟩
      rw [lk]
      exact err_way ⟨_, rfl, log_of (by decide) (Nat.lt_of_le_of_lt (show ((rows.length : Int)).natAbs ≤ 61 by omega) (by decide +kernel))⟩ fun d' hd' => h1 (by omega) H d' (fun _ _ _ _ e => e) hd'
    · refine if_f (decide_eq_false c8) ?_
      obtain ⟨k1, k2⟩ := h2 (by omega)
      refine fun d hd => ⟨_, rfl, x, CR, dx, _, rfl, by rw [upd_ne (ne_of_none hx hd)]; exact hx, T.cl, T.nD, by show 0 < 1000; decide, ?_⟩
      have ndx : d ≠ x := fun z => by rw [z, hx] at hd; cases hd
      have ndd : d ≠ d0 := fun z => by rw [z, hd0] at hd; cases hd
      have hA0 : (upd (upd H d (.dK [])) x (.ins CR dx (putF "_lengths" (V.ref d) []))) d0 = some (.dK (kvs rows)) := by rw [upd_ne (Ne.symm nxd), upd_ne (Ne.symm ndd)]; exact hd0
      refine ⟨d0, .dK (kvs rows), hA0, trivial, fun od => ?_⟩
      refine ⟨_, rfl, d0, od, kvs rows, rfl, upd_same, ?_⟩
      refine for_it walk_items (fun i σ' H' => ∃ v2 v3 : Option V, σ' = [some (.ref x), some (.ref d0), v2, v3] ∧ H' d0 = some (.frz od (.dK (kvs rows))) ∧ Rck CR H' x d (rows.take i) ∧ firstBad (rows.take i) (rows.drop i) = firstBad [] rows ∧ But x d0 H H')
        ⟨_, _, rfl, upd_same, ⟨⟨dx, _, by rw [upd_ne nxd, upd_same], rfl, fun m hm => ?_⟩, by rw [upd_ne ndd, upd_ne ndx, upd_same]; rfl⟩, rfl, fun b o n1 n2 e => ?_⟩ (fun i σ' H' _ h => ?_) ?_ ?_
      · rw [lookup_putF, if_neg hm]
        rfl
      · rw [upd_ne n2, upd_ne n1, upd_ne (ne_of_none e hd)]
        exact e
      · obtain ⟨_, _, _, h, _⟩ := h
        exact h
      · rintro i z σ' H' H'' hi ⟨v2, v3, rfl, g1, g2, g3, g4⟩ ⟨T, u1, u2, rfl, hT, rfl, e1, e2⟩
        rw [lk] at hi
        obtain ⟨⟨y, L⟩, hyl⟩ : ∃ p, rows[i]? = some p := ⟨_, List.getElem?_eq_getElem hi⟩
        have ek : (kvs rows)[i]? = some (.inr y, .int L) := by
          unfold kvs
          rw [List.getElem?_map, hyl]
          rfl
        obtain rfl : u1 = V.str y := by
          have e1' : Option.map (fun kv : Key × V => kV kv.1) (kvs rows)[i]? = some u1 := e1
          rw [ek] at e1'
          exact (Option.some.inj e1').symm
        obtain rfl : u2 = V.int L := by
          have e2' : Option.map (fun kv : Key × V => kv.2) (kvs rows)[i]? = some u2 := e2
          rw [ek] at e2'
          exact (Option.some.inj e2').symm
        have S : Same H' (upd H' T (.tup [V.str y, .int L])) := fun b o e => by rw [upd_ne (ne_of_none e hT)]; exact e
        have ed : rows.drop i = (y, L) :: rows.drop (i + 1) := by
          rw [List.drop_eq_getElem_cons hi]
          rw [List.getElem?_eq_getElem hi] at hyl
          rw [Option.some.inj hyl]
        have et : rows.take (i + 1) = rows.take i ++ [(y, L)] := by
          rw [List.take_succ, hyl]
          rfl
        have g2' := g2.same S
        obtain ⟨fy, sL⟩ := hall (y, L) (List.mem_of_getElem? hyl)
        obtain ⟨⟨dx', fs', w1, w2, w3⟩, w4⟩ := id g2'
        rw [ed] at g3
        refine ⟨T, _, rfl, SqT.of upd_same, rfl, _, _, rfl, _, _, rfl, rfl, ?_⟩
        refine ⟨_, rfl, ?_⟩
        refine ⟨x, dx', fs', rfl, w1, w3 _ (by decide), _, rfl, _, rfl, x, d, rows.take i, y, L, rfl, g2', by rw [List.length_take]; omega, fy, sL, ?_, fun hp => ?_⟩
        · by_cases hp : due (rows.take i) y L = .put
          · exact ⟨fun c => (by rw [hp] at c; cases c), fun c => (by rw [hp] at c; cases c), fun c => (by rw [hp] at c; cases c), fun c => (by rw [hp] at c; cases c)⟩
          · refine (k1 (rows.take i) y L ?_).at fun H3 s3 b o n1 n2 e => s3 _ _ (S _ _ (g4 b o n1 n2 e))
            rw [← g3]
            show (if due (rows.take i) y L = .put then _ else _) = _
            rw [if_neg hp]
        · refine ⟨_, _, rfl, ?_, ?_, ?_, fun b o n1 n2 e => ?_⟩
          · rw [upd_ne (Ne.symm ndd)]
            exact S _ _ g1
          · rw [et]
            exact g2'.put
          · rw [et, ← g3]
            show _ = (if due (rows.take i) y L = .put then _ else _)
            rw [if_pos hp]
          · have nbd : b ≠ d := fun z => by rw [z, hd] at e; cases e
            rw [upd_ne nbd]
            exact S _ _ (g4 b o n1 n2 e)
      · rintro σ' H' ⟨v2, v3, rfl, g1, g2, g3, g4⟩
        rw [lk, List.take_length] at g2
        rw [lk, List.take_length, List.drop_length] at g3
        refine ⟨g1, k2 g3.symm d _ hd ?_ fun b o n1 n2 e => by rw [upd_ne n2]; exact g4 b o n1 n2 e⟩
        obtain ⟨⟨dx', fs', w1, w2⟩, w3⟩ := g2
        exact ⟨⟨dx', fs', by rw [upd_ne nxd]; exact w1, w2⟩, by rw [upd_ne ndd]; exact w3⟩
end
end Law

/-! What the law's own defs of several laws want: comprehensions told by a function, draws, texts as data. -/
namespace Law
open PySem PySem.Spec PyProof.Rows L2
def SameB (b : Addr) (H H' : Hp) : Prop := ∀ c o, c ≠ b → H c = some o → H' c = some o
theorem SameB.of {b : Addr} {H H' : Hp} (k : ∀ c, c ≠ b → H' c = H c) : SameB b H H' := fun c o n e => (k c n).trans e
theorem SameB.trans {b : Addr} {H H1 H2 : Hp} (s : SameB b H H1) (t : SameB b H1 H2) : SameB b H H2 := fun c o n e => t c o n (s c o n e)
theorem SameB.of_same {b : Addr} {H H' : Hp} (s : Same H H') : SameB b H H' := fun c o _ e => s c o e
theorem same_tr {H H1 H2 : Hp} (s : Same H H1) (t : Same H1 H2) : Same H H2 := fun c o e => t c o (s c o e)
theorem same_rfl {H : Hp} : Same H H := fun _ _ e => e
theorem Room.u65 {k : Nat} {A : Around} (r : Room k A) : A.units + 65 < cLine := by have := r.un; omega
theorem Box.free {H : Hp} {b l d : Addr} (B : Box H b l) (h : H d = none) : b ≠ d ∧ l ≠ d := by
  obtain ⟨ns, i, q, s, h1, h2, _⟩ := B
  exact ⟨ne_of_none h1 h, ne_of_none h2 h⟩
theorem Box.at {H : Hp} {b l d : Addr} {o : HO} (B : Box H b l) (n : b ≠ d ∧ l ≠ d) : Box (upd H d o) b l := B.keep fun c hc => by
  rcases hc with rfl | rfl
  · exact upd_ne n.1
  · exact upd_ne n.2
theorem Box.same {H H' : Hp} {b l : Addr} (B : Box H b l) (s : Same H H') : Box H' b l := by
  obtain ⟨ns, i, q, s', h1, h2, h3⟩ := B
  exact ⟨ns, i, q, s', s _ _ h1, s _ _ h2, h3⟩
theorem Box.neT {H : Hp} {b l c : Addr} {xs : List V} (B : Box H b l) (h : H c = some (.tup xs)) : c ≠ b := fun z => by
  obtain ⟨_, _, _, _, q, _⟩ := B
  rw [z, q] at h
  cases h
theorem Box.neD {H : Hp} {b l c : Addr} {kv : List (Key × V)} (B : Box H b l) (h : H c = some (.dK kv)) : c ≠ b ∧ c ≠ l := by
  obtain ⟨_, _, _, _, q, q2, _⟩ := B
  exact ⟨fun z => (by rw [z, q] at h; cases h), fun z => (by rw [z, q2] at h; cases h)⟩
theorem Box.neI {H : Hp} {b l c C dx : Addr} {fs : List (Str × V)} (B : Box H b l) (h : H c = some (.ins C dx fs)) : c ≠ b ∧ c ≠ l := by
  obtain ⟨_, _, _, _, q, q2, _⟩ := B
  exact ⟨fun z => (by rw [z, q] at h; cases h), fun z => (by rw [z, q2] at h; cases h)⟩
theorem same_new {H : Hp} {p : Addr} {o : HO} (h : H p = none) : Same H (upd H p o) := fun b o' e => by
  rw [upd_ne (ne_of_none e h)]
  exact e
theorem none_back {H H' : Hp} {x : Addr} (s : Same H H') (h : H' x = none) : H x = none := by
  cases e : H x with
  | none => rfl
  | some o =>
    have z := s _ _ e
    rw [h] at z
    cases z
/-- within a comprehension whose turn i adds out i (or nothing), all else new -/
def LcP (D : Addr) (H1 : Hp) (out : Nat → Option V) (i : Nat) (H : Hp) : Prop := H D = some (.lst ((List.range i).filterMap out)) ∧ Same H1 H
section
variable {D : Addr} {H1 H H4 : Hp} {out : Nat → Option V} {i : Nat} {y : V}
theorem LcP.start (hD : H1 D = none) : LcP D H1 out 0 (upd H1 D (.lst [])) := ⟨upd_same, same_new hD⟩
theorem fm_len (i : Nat) : ((List.range i).filterMap out).length ≤ i := by
  have := List.length_filterMap_le out (List.range i)
  rw [List.length_range] at this
  exact this
theorem fm_succ : (List.range (i + 1)).filterMap out = (List.range i).filterMap out ++ (out i).toList := by
  rw [List.range_succ, List.filterMap_append]
  cases e : out i <;> simp [e]
theorem LcP.push (h : LcP D H1 out i H) (hD : H1 D = none) (s : Same H H4) (ho : out i = some y) (hi : i < 1000) :
    ∃ acc, H4 D = some (.lst acc) ∧ acc.length < sizeLine ∧ LcP D H1 out (i + 1) (upd H4 D (.lst (acc ++ [y]))) := by
  refine ⟨_, s _ _ h.1, small1000 (Nat.le_of_lt (Nat.lt_of_le_of_lt (fm_len i) hi)), ?_, fun b o e => ?_⟩
  · rw [upd_same, fm_succ, ho]
    rfl
  · rw [upd_ne (ne_of_none e hD)]
    exact s _ _ (h.2 _ _ e)
theorem LcP.skip (h : LcP D H1 out i H) (s : Same H H4) (ho : out i = none) : LcP D H1 out (i + 1) H4 := by
  refine ⟨?_, same_tr h.2 s⟩
  rw [fm_succ, ho, s _ _ h.1]
  simp
end
theorem range_fm {α β : Type} (f : α → Option β) (xs : List α) : (List.range xs.length).filterMap (fun i => xs[i]?.bind f) = xs.filterMap f := by
  induction xs with
  | nil => rfl
  | cons x xs ih =>
    rw [List.length_cons, List.range_succ_eq_map, List.filterMap_cons, List.filterMap_map, List.filterMap_cons]
    have e : (fun i => (x :: xs)[i]?.bind f) ∘ Nat.succ = fun i => xs[i]?.bind f := by
      funext i
      simp
    rw [e, ih]
    simp
theorem range_id {α : Type} (xs : List α) : (List.range xs.length).filterMap (fun i : Nat => xs[i]?) = xs := by
  have e := range_fm (some : α → Option α) xs
  have e1 : (fun i : Nat => xs[i]?.bind some) = fun i : Nat => xs[i]? := by
    funext i
    cases xs[i]? <;> rfl
  rw [e1] at e
  rw [e]
  simp
theorem fm_any {α β : Type} (p : α → Bool) (f : α → β) (xs : List α) : decide ((0 : Int) < (((xs.filterMap fun c => if p c = true then none else some (f c)).length : Nat) : Int)) = xs.any fun c => !p c := by
  induction xs with
  | nil => rfl
  | cons x xs ih =>
    rw [List.filterMap_cons, List.any_cons, ← ih]
    cases h : p x with
    | true => simp
    | false =>
      simp
theorem at_nat {xs : List V} {j : Nat} {v : V} (h : xs[j]? = some v) : atI xs (j : Int) = some v := atI_nat h
/-! texts as data -/
theorem ok_str {y : Str} (h : ∀ c ∈ y.cps.toList, c < 1114112) : PyData.canLay0 (.str y) = true := by
  have e : PyData.canLay0 (.str y) = PyData.strOk y := by simp only [PyData.canLay0]
  rw [e]
  unfold PyData.strOk
  rw [← Array.all_toList, List.all_eq_true]
  intro c hc
  exact decide_eq_true (h c hc)
theorem ok_strs : ∀ {ys : List Str}, (∀ y ∈ ys, ∀ c ∈ y.cps.toList, c < 1114112) → PyData.canLayAll0 (ys.map PyData.str) = true
  | [], _ => by simp only [List.map_nil, PyData.canLayAll0]
  | y :: ys, h => by
    rw [List.map_cons]
    simp only [PyData.canLayAll0]
    rw [Bool.and_eq_true]
    exact ⟨ok_str (h y List.mem_cons_self), ok_strs fun x hx => h x (List.mem_cons_of_mem _ hx)⟩
theorem deep_strs : ∀ ys : List Str, PyData.depthAll (ys.map PyData.str) = 0
  | [] => by simp [PyData.depthAll]
  | y :: ys => by
    rw [List.map_cons]
    simp [PyData.depthAll, PyData.depth, deep_strs ys]
theorem shaped_str {y : Str} (h : ∀ c ∈ y.cps.toList, c < 1114112) : SeqAt.shaped (.str y) = true := by
  unfold SeqAt.shaped
  rw [ok_str h]
  simp [PyData.depth]
theorem shaped_strs {ys : List Str} (h : ∀ y ∈ ys, ∀ c ∈ y.cps.toList, c < 1114112) : SeqAt.shaped (.list (ys.map PyData.str)) = true := by
  unfold SeqAt.shaped
  have e : PyData.canLay0 (.list (ys.map PyData.str)) = true := by
    simp only [PyData.canLay0]
    exact ok_strs h
  rw [e]
  simp [PyData.depth, deep_strs]
theorem dp_strs {K : PySem.W.Frag} {H : Hp} : ∀ ys : List Str, DpAll K H (ys.map V.str) (ys.map PyData.str)
  | [] => .nil
  | _ :: ys => .cons (.str _) (dp_strs ys)
theorem any_strs (ys : List Str) (y : Str) : ((ys.map PyData.str).any fun z => PyData.eqv z (.str y)) = ys.contains y := by
  induction ys with
  | nil => rfl
  | cons x ys ih =>
    rw [List.map_cons, List.any_cons, ih, List.contains_cons]
    have e : PyData.eqv (.str x) (.str y) = (y == x) := by
      simp only [PyData.eqv]
      by_cases h : x = y
      · subst h
        rfl
      · have h1 : (x == y) = false := by simpa using h
        have h2 : (y == x) = false := by simpa using fun z => h z.symm
        rw [h1, h2]
    rw [e]
/-- two shaped data that are told the same are equal -/
theorem eqv_rfl {d : PyData} (h : SeqAt.shaped d = true) : PyData.eqv d d = true := SeqAt.eqv_refl _ (SeqAt.canLay_of_shaped h)
theorem shaped_pair {a b : PyData} (ha : PyData.canLay0 a = true) (hb : PyData.canLay0 b = true) (da : PyData.depth a = 0) (db : PyData.depth b = 0) : SeqAt.shaped (.tuple [a, b]) = true := by
  unfold SeqAt.shaped
  have e : PyData.canLay0 (.tuple [a, b]) = true := by
    simp only [PyData.canLay0, PyData.canLayAll0, ha, hb]
    rfl
  rw [e]
  simp [PyData.depth, PyData.depthAll, da, db]
/-! texts joined without a separator, and cut -/
theorem joinL_mem : ∀ {ls : List (List Nat)} {c : Nat}, c ∈ TL.joinL [] ls → ∃ x ∈ ls, c ∈ x
  | [], c, h => by cases h
  | [p], c, h => ⟨p, List.mem_cons_self, h⟩
  | p :: q :: r, c, h => by
    rcases List.mem_append.mp h with h | h
    · exact ⟨p, List.mem_cons_self, h⟩
    · obtain ⟨x, hx, hc⟩ := joinL_mem (ls := q :: r) h
      exact ⟨x, List.mem_cons_of_mem _ hx, hc⟩
theorem joinL_len : ∀ (ls : List (List Nat)), (TL.joinL [] ls).length = (ls.map List.length).sum
  | [] => rfl
  | [p] => by simp [TL.joinL]
  | p :: q :: r => by
    show (p ++ ([] ++ TL.joinL [] (q :: r))).length = _
    rw [List.nil_append, List.length_append, joinL_len (q :: r)]
    rfl
theorem join_cps (ys : List Str) : (Txt.join "" ys).cps.toList = TL.joinL [] (ys.map fun y => y.cps.toList) := by
  have e := TL.tl_join ("" : Str) ys
  have e2 : Txt.join "" ys = Str.join "" ys := TL.join_eq _ _
  rw [e2]
  exact e
theorem cut_mem {z : Str} {lo hi : Option Int} {c : Nat} (h : c ∈ (cutS z lo hi).cps.toList) : c ∈ z.cps.toList := by
  unfold cutS at h
  exact List.mem_of_mem_drop (List.mem_of_mem_take (by simpa using h))
theorem cut_len {z : Str} {lo hi : Option Int} : (cutS z lo hi).length ≤ z.length := by
  show (((z.cps.toList.drop _).take _).toArray).size ≤ z.cps.size
  simp
  omega
theorem cps_app (a b : Str) : (a ++ b).cps.toList = a.cps.toList ++ b.cps.toList := TL.tl_append a b
end Law

namespace Law
open PySem PySem.Spec PyProof.Rows L2 Sup
abbrev sNam : Stmt := top 22
abbrev sBad : Stmt := top 23
abbrev sDue : Stmt := top 24
abbrev sPutL : Stmt := top 25
abbrev sUnk : Stmt := top 26
abbrev sSam : Stmt := top 27
abbrev sRef : Stmt := top 28
abbrev sKey : Stmt := top 29
abbrev sLaw : Stmt := top 30
/-- the law's own rows: a list of tuples -/
def RowsAt (H : Hp) (l : Addr) (rows : List Row) : Prop := ∃ ts : List Addr, H l = some (.lst (ts.map V.ref)) ∧ ts.length = rows.length ∧ ∀ (i : Nat) (t : Addr) (y : Str) (L : Int), ts[i]? = some t → rows[i]? = some (y, L) → H t = some (.tup [.str y, .int L])
theorem RowsAt.same {H H' : Hp} {l : Addr} {rows : List Row} (h : RowsAt H l rows) (s : Same H H') : RowsAt H' l rows := by
  obtain ⟨ts, h1, h2, h3⟩ := h
  exact ⟨ts, s _ _ h1, h2, fun i t y L e1 e2 => s _ _ (h3 i t y L e1 e2)⟩
theorem RowsAt.neB {H : Hp} {l b l0 : Addr} {rows : List Row} (h : RowsAt H l rows) (B : Box H b l0) : l ≠ b := fun z => by
  obtain ⟨ts, h1, _⟩ := h
  obtain ⟨_, _, _, _, q, _⟩ := B
  rw [z, q] at h1
  have e := HO.lst.inj (Option.some.inj h1)
  match ts, e with
  | [], e => cases e
  | [_], e => cases e
  | _ :: _ :: _, e =>
    rw [List.map_cons, List.map_cons] at e
    injection e with _ e
    injection e with e _
    cases e
theorem RowsAt.sameB {H H' : Hp} {l b l0 : Addr} {rows : List Row} (h : RowsAt H l rows) (B : Box H b l0) (s : SameB b H H') : RowsAt H' l rows := by
  have n := h.neB B
  obtain ⟨ts, h1, h2, h3⟩ := h
  exact ⟨ts, s _ _ n h1, h2, fun i t y L e1 e2 => s _ _ (B.neT (h3 i t y L e1 e2)) (h3 i t y L e1 e2)⟩
theorem RowsAt.len {H : Hp} {l : Addr} {rows : List Row} (h : RowsAt H l rows) : ∃ xs, H l = some (.lst xs) ∧ xs.length = rows.length := by
  obtain ⟨ts, h1, h2, _⟩ := h
  exact ⟨_, h1, by rw [List.length_map, h2]⟩
theorem RowsAt.at {H : Hp} {l : Addr} {rows : List Row} {i : Nat} {y : Str} {L : Int} (h : RowsAt H l rows) (e : rows[i]? = some (y, L)) : ∃ xs t, H l = some (.lst xs) ∧ xs[i]? = some (.ref t) ∧ H t = some (.tup [.str y, .int L]) := by
  obtain ⟨ts, h1, h2, h3⟩ := h
  have hi : i < rows.length := (List.getElem?_eq_some_iff.mp e).1
  have hi' : i < ts.length := by omega
  exact ⟨_, ts[i], h1, by rw [List.getElem?_map, List.getElem?_eq_getElem hi']; rfl, h3 i _ y L (List.getElem?_eq_getElem hi') e⟩
/-- a word of letters and the sign put in -/
def signs : Str := " AZ09_-.`{"
def dueV (rows : List Row) (y : Str) (L : Int) : List V := match due rows y L with
  | .name => [.str "BadName", .str y]
  | .taken => [.str "TakenName", .str y]
  | .number => [.str "BadNumber", .int L]
  | .many => [.str "TooMany", .int 9]
  | .put => [.str "put", .non]
def spNam : Sp := fun vs H Q _ => ∃ (b l rl : Addr) (rows : List Row), vs = [.ref b, .ref rl] ∧ Box H b l ∧ RowsAt H rl rows ∧ rows.length ≤ 60 ∧ (∀ p ∈ rows, Fit p.1) ∧ ∀ (y : Str) (H' : Hp), Fit y → Box H' b l → SameB b H H' → Q (.str y) H'
def spBad : Sp := fun vs H Q _ => ∃ y : Str, vs = [.str y] ∧ Fit y ∧ ∀ H', Same H H' → Q (.bl (badN y)) H'
def spDue : Sp := fun vs H Q _ => ∃ (rl : Addr) (rows : List Row) (y : Str) (L : Int), vs = [.ref rl, .str y, .int L] ∧ RowsAt H rl rows ∧ rows.length ≤ 60 ∧ (∀ p ∈ rows, Fit p.1) ∧ Fit y ∧ ∀ (t : Addr) (H' : Hp), Same H H' → H' t = some (.tup (dueV rows y L)) → Q (.ref t) H'
structure LTxt (mg : Str → Option Value) (fT fBd : Addr) : Prop where
  take : mg "_law_take" = some (.ref fT)
  bad : mg "_law_bad" = some (.ref fBd)
  b_len : mg "len" = none
  b_range : mg "range" = none
section
variable {P : Program} {w : World} {K : PySem.W.Frag} {mg : Str → Option Value} {base : Heap} {fT fBd : Addr}
theorem scNam : FnScope ["_law_box_here", "_law_rows", "_law_letters", "_law_word", "_law_at", "_law_sign", "_law_way", "_law_k"] ["_law_box_here", "_law_rows"] (defScope sNam) := ⟨rfl, rfl, rfl, by decide +kernel, rfl, by decide +kernel, by decide +kernel⟩
set_option maxHeartbeats 0 in
theorem ok_nam {f : Addr} {fd fdT : FuncData} (F : Fun K "_law_name" "_law_name" sNam f fd) (GT : FnOk P w K mg base CX0 1 fT fdT ["_law_box_here", "_law_size"] spTake) (FT : Fun K "_law_take" "_law_take" sTake fT fdT) (bT : Binds K fdT ["_law_box_here", "_law_size"] []) (T : LTxt mg fT fBd) : FnOk P w K mg base CX0 2 f fd ["_law_box_here", "_law_rows"] spNam := by
  refine F.ok scNam (fun vs H Q E h => ?_) (fun cdv A outer s H vs Q E hr h => ?_)
  · obtain ⟨b, l, rl, rows, rfl, _⟩ := h
    rfl
  · obtain ⟨b, l, rl, rows, rfl, B, R, h60, hF, k⟩ := h
    have hr1 : Room 1 _ := hr
    refine ⟨_, (C8.pss_cut (ps_if (PW.pt (pw_and (pt_cmpR op_gt (pe_callB call_len_seq (by rfl) T.b_len PySem.boot_len (pa_cons (pv 1) pa_nil)) pe_int (nomark _)) (pw_and1 (pt_cmpR op_eq (pe_call GT hr1 rfl T.take FT.kp bT .nil pass0 (pa_cons (pv 0) (pa_cons pe_int pa_nil))) pe_int (nomark _))))) (pss_one (ps_ret (pe_ix ix_tup (pe_ix ix_list (pv 1) (pe_call GT hr1 rfl T.take FT.kp bT .nil pass0 (pa_cons (pv 0) (pa_cons (pe_callB call_len_seq (by rfl) T.b_len PySem.boot_len (pa_cons (pv 1) pa_nil)) pa_nil))) (fun _ _ => rfl)) pe_int (fun _ _ => rfl)))) pss_nil)
      (pss_cons (ps_set (i := 2) scNam.nd rfl (Or.inr rfl) pe_str)
      (pss_cons (ps_set (i := 3) scNam.nd rfl (Or.inl rfl) (pe_join pe_str (pe_lc (own := [("_law_k", 7)]) (g := gName 7) (tt := tYes) (by rfl) scNam.nd (pi_range1 (by rfl) T.b_range (pa_cons (pe_op op_add pe_int (pe_call GT hr1 rfl T.take FT.kp bT .nil pass0 (pa_cons (pv 0) (pa_cons pe_int pa_nil)))) pa_nil)) (blkOk_by (own := [("_law_k", 7)]) (N := ["_law_box_here", "_law_rows", "_law_letters", "_law_word", "_law_at", "_law_sign", "_law_way", "_law_k"]) (sc := defScope sNam) (by decide +kernel)) (fun _ _ _ _ _ => pg_name (i := 7) scNam.nd rfl (Or.inl rfl)) (fun _ _ _ _ _ => pts_nil) (fun _ _ _ _ _ => (pe_ix ix_str (pv 2) (pe_call GT hr1 rfl T.take FT.kp bT .nil pass0 (pa_cons (pv 0) (pa_cons pe_int pa_nil))) (fun _ _ => rfl))))))
      (pss_cons (ps_set (i := 4) scNam.nd rfl (Or.inl rfl) (pe_call GT hr1 rfl T.take FT.kp bT .nil pass0 (pa_cons (pv 0) (pa_cons (pe_callB call_len_str (by rfl) T.b_len PySem.boot_len (pa_cons (pv 3) pa_nil)) pa_nil))))
      (pss_cons (ps_set (i := 5) scNam.nd rfl (Or.inl rfl) (pe_ix ix_str pe_str (pe_call GT hr1 rfl T.take FT.kp bT .nil pass0 (pa_cons (pv 0) (pa_cons pe_int pa_nil))) (fun _ _ => rfl)))
      (pss_cons (ps_set (i := 6) scNam.nd rfl (Or.inl rfl) (pe_call GT hr1 rfl T.take FT.kp bT .nil pass0 (pa_cons (pv 0) (pa_cons pe_int pa_nil))))
      (pss_cons (ps_if (pt_cmpR op_eq (pv 6) pe_int (nomark _)) (pss_one (ps_ret (pe_op op_add_str (pe_op op_add_str (pe_slice sl_str (pv 3) po_none (po_some (pv 4))) (pv 5)) (pe_slice sl_str (pv 3) (po_some (pe_op op_add (pv 4) pe_int)) po_none)))) pss_nil)
      (pss_cons (ps_if (pt_cmpR op_eq (pv 6) pe_int (nomark _)) (pss_one (ps_ret pe_str)) pss_nil)
      (pss_one (ps_ret (pv 3))))))))))), ?_⟩
    refine ⟨fun σ' H' => σ' = [some (.ref b), some (.ref rl), none, none, none, none, none, none] ∧ Box H' b l ∧ SameB b H H', ?_, ?_⟩
    · obtain ⟨xs, hxs, hlen⟩ := R.len
      refine ⟨_, rfl, rl, xs, rfl, .inl (SqL.of hxs), _, _, rfl, rfl, _, rfl, ?_⟩
      rw [hlen]
      by_cases c0 : (0 : Int) < (rows.length : Int)
      · refine if_t (decide_eq_true c0) ?_
        refine ⟨_, rfl, b, l, _, rfl, B, by decide, by decide, fun q H1 a0 a1 B1 k1 => ⟨rfl, _, rfl, ?_⟩⟩
        refine ite2 (fun _ => ?_) (fun _ => ⟨rfl, B1, SameB.of k1⟩)
        have R1 := R.sameB B (SameB.of k1)
        obtain ⟨xs1, hxs1, hlen1⟩ := R1.len
        refine ⟨_, rfl, _, rfl, _, rfl, rl, xs1, rfl, .inl (SqL.of hxs1), b, l, _, rfl, B1, by omega, Nat.lt_of_le_of_lt (show (xs1.length : Int).natAbs ≤ 60 by omega) (by decide +kernel), fun r H2 r0 r1 B2 k2 => ?_⟩
        obtain ⟨⟨y, L⟩, hy⟩ : ∃ p, rows[r.toNat]? = some p := ⟨_, List.getElem?_eq_getElem (by omega)⟩
        obtain ⟨xs2, t, g1, g2, g3⟩ := (R1.sameB B1 (SameB.of k2)).at hy
        refine ⟨rl, xs2, r, _, rfl, rfl, SqL.of g1, ?_, t, _, _, _, rfl, rfl, SqT.of g3, rfl, ?_⟩
        · have z := at_nat g2
          rw [Int.toNat_of_nonneg r0] at z
          exact z
        · exact k y H2 (hF _ (List.mem_of_getElem? hy)) B2 ((SameB.of k1).trans (SameB.of k2))
      · exact if_f (decide_eq_false c0) ⟨rfl, B, fun _ _ _ e => e⟩
    rintro σ' H1 ⟨rfl, B1, s1⟩
    refine ⟨⟨_, rfl⟩, _, rfl, b, l, _, rfl, B1, by decide, by decide, fun n H2 n0 n1 B2 k2 => ⟨_, _, rfl, rfl, _, rfl, by omega, by omega, fun D hD => ?_⟩⟩
    have s2 := s1.trans (SameB.of k2)
    have nDb : D ≠ b := Ne.symm (B2.free hD).1
    have hLl : letters.cps.toList.length = 26 := by decide +kernel
    have hLc : ∀ c ∈ letters.cps.toList, c < 1114112 := by decide +kernel
    refine lc_range (lo := 0) (n := (1 + n).toNat) (fun i H' => ∃ ys : List Str, H' D = some (.lst (ys.map V.str)) ∧ ys.length = i ∧ (∀ y ∈ ys, y.cps.toList.length = 1 ∧ ∀ c ∈ y.cps.toList, c < 1114112) ∧ Box H' b l ∧ SameB b H H')
      ⟨[], upd_same, rfl, (fun _ h => nomatch h), B2.at (B2.free hD), fun c o nc e => same_new hD _ _ (s2 _ _ nc e)⟩ ?_ ?_
    · rintro i H3 hi ⟨ys, y1, y2, y3, B3, s3⟩
      refine ⟨rfl, _, rfl, _, rfl, b, l, _, rfl, B3, by decide, by decide, fun r H4 r0 r1 B4 k4 => ?_⟩
      obtain ⟨c, hc⟩ : ∃ c, letters.cps.toList[r.toNat]? = some c := ⟨_, List.getElem?_eq_getElem (by omega)⟩
      have hcl : c ∈ letters.cps.toList := List.mem_of_getElem? hc
      refine ⟨letters, r, c, rfl, rfl, by decide +kernel, ?_, _, (k4 D nDb).trans y1, small1000 (by rw [List.length_map]; omega), ys ++ [⟨#[c]⟩], ?_, by rw [List.length_append, y2]; rfl, fun y hy => ?_, ?_, ?_⟩
      · have z := atI_nat hc
        rw [Int.toNat_of_nonneg r0] at z
        exact z
      · rw [upd_same, List.map_append]
        rfl
      · rcases List.mem_append.mp hy with hy | hy
        · exact y3 y hy
        · rw [List.mem_singleton] at hy
          subst hy
          refine ⟨rfl, fun c' hc' => ?_⟩
          have e : c' = c := by simpa using hc'
          rw [e]
          exact hLc c hcl
      · refine B4.keep fun d hd => upd_ne ?_
        rcases hd with rfl | rfl
        · exact Ne.symm nDb
        · exact (B2.free hD).2
      · intro d o nd e
        have nD : d ≠ D := fun z => by
          subst z
          have := s2 _ _ nd e
          rw [hD] at this
          cases this
        rw [upd_ne nD, k4 d nd]
        exact s3 d o nd e
    rintro H3 ⟨ys, y1, y2, y3, B3, s3⟩
    have en : ys.length ≤ 13 ∧ 1 ≤ ys.length := by omega
    have jl : (Txt.join "" ys).length = ys.length := by
      have e := join_cps ys
      have e2 : (Txt.join "" ys).length = (Txt.join "" ys).cps.toList.length := by simp [Str.length]
      rw [e2, e, joinL_len, List.map_map]
      clear e e2 y1 y2 en
      induction ys with
      | nil => rfl
      | cons y ys ih =>
        rw [List.map_cons, List.sum_cons, ih fun z hz => y3 z (List.mem_cons_of_mem _ hz)]
        have := (y3 y List.mem_cons_self).1
        show y.cps.toList.length + _ = _
        rw [this, List.length_cons]
        omega
    have jc : ∀ c ∈ (Txt.join "" ys).cps.toList, c < 1114112 := fun c hc => by
      rw [join_cps] at hc
      obtain ⟨x, hx, hcx⟩ := joinL_mem hc
      obtain ⟨y, hy, rfl⟩ := List.mem_map.mp hx
      exact (y3 y hy).2 c hcx
    refine ⟨_, D, ys, rfl, rfl, .inl (SqL.of y1), ?_, ?_⟩
    · have e : (ys.map (·.length)).sum = ys.length := by
        clear jl jc y1 y2 en
        induction ys with
        | nil => rfl
        | cons y ys ih =>
          rw [List.map_cons, List.sum_cons, ih fun z hz => y3 z (List.mem_cons_of_mem _ hz)]
          have := (y3 y List.mem_cons_self).1
          have e3 : y.length = 1 := by simpa [Str.length] using this
          rw [e3, List.length_cons]
          omega
      have e0 : ("" : Str).length = 0 := rfl
      rw [e, e0]
      omega
    generalize Txt.join "" ys = wd at jl jc
    have hw : wd.length ≤ 13 ∧ 1 ≤ wd.length := by omega
    clear jl en y1 y2 y3
    have szl : ∀ m : Nat, m ≤ 1000 → m ≤ sizeLine := fun m h => by rw [sizeLine_eq]; omega
    refine ⟨_, rfl, _, rfl, wd, rfl, szl _ (by omega), b, l, _, rfl, B3, by omega, Nat.lt_of_le_of_lt (show (wd.length : Int).natAbs ≤ 60 by omega) (by decide +kernel), fun at_ H4 a0 a1 B4 k4 => ?_⟩
    refine ⟨_, rfl, b, l, _, rfl, B4, by decide, by decide, fun r H5 r0 r1 B5 k5 => ?_⟩
    have hSl : signs.cps.toList.length = 10 := by decide +kernel
    have hSc : ∀ c ∈ signs.cps.toList, c < 1114112 := by decide +kernel
    obtain ⟨c, hc⟩ : ∃ c, signs.cps.toList[r.toNat]? = some c := ⟨_, List.getElem?_eq_getElem (by omega)⟩
    refine ⟨signs, r, c, rfl, rfl, by decide +kernel, (by have z := atI_nat hc; rw [Int.toNat_of_nonneg r0] at z; exact z), ?_⟩
    refine ⟨_, rfl, b, l, _, rfl, B5, by decide, by decide, fun way H6 w0 w1 B6 k6 => ?_⟩
    have s6 : SameB b H H6 := ((s3.trans (SameB.of k4)).trans (SameB.of k5)).trans (SameB.of k6)
    refine ⟨_, rfl, rfl, _, rfl, ite2 (fun _ => ?_) (fun _ => ?_)⟩
    · refine ⟨_, rfl, _, rfl, at_, rfl, wd, rfl, szl _ (by omega), ?_⟩
      have q1 := cut_len (z := wd) (lo := none) (hi := some at_)
      have q2 := cut_len (z := wd) (lo := some (at_ + 1)) (hi := none)
      have q3 : (⟨#[c]⟩ : Str).length = 1 := rfl
      refine ⟨_, rfl, _, _, rfl, rfl, szl _ (by omega), ?_⟩
      refine ⟨_, rfl, _, rfl, _, _, rfl, rfl, _, rfl, wd, rfl, szl _ (by omega), ?_⟩
      refine ⟨_, _, rfl, rfl, szl _ (by rw [Str.length_append]; omega), ?_⟩
      refine k _ H6 ⟨by rw [Str.length_append, Str.length_append]; omega, fun d hd => ?_⟩ B6 s6
      rw [cps_app, cps_app] at hd
      rcases List.mem_append.mp hd with hd | hd
      · rcases List.mem_append.mp hd with hd | hd
        · exact jc _ (cut_mem hd)
        · have e : d = c := by simpa using hd
          rw [e]
          exact hSc c (List.mem_of_getElem? hc)
      · exact jc _ (cut_mem hd)
    · refine ⟨_, rfl, rfl, _, rfl, ite2 (fun _ => ?_) (fun _ => ?_)⟩
      · exact k _ H6 ⟨by decide, fun c hc => nomatch hc⟩ B6 s6
      · exact ⟨_, rfl, k _ H6 ⟨by omega, jc⟩ B6 s6⟩
theorem scBad : FnScope ["_law_name_here", "_law_sign"] ["_law_name_here"] (defScope sBad) := ⟨rfl, rfl, rfl, by decide +kernel, rfl, by decide +kernel, by decide +kernel⟩
theorem ok_bad {f : Addr} {fd : FuncData} (F : Fun K "_law_bad" "_law_bad" sBad f fd) (T : LTxt mg fT fBd) : FnOk P w K mg base CX0 1 f fd ["_law_name_here"] spBad := by
  refine F.ok scBad (fun vs H Q E h => ?_) (fun cdv A outer s H vs Q E hr h => ?_)
  · obtain ⟨y, rfl, _⟩ := h
    rfl
  · obtain ⟨y, rfl, fy, k⟩ := h
    refine ⟨_, (pss_cons (ps_if (PW.pt (pw_or (pt_cmpR op_eq (pv 0) pe_str (nomark _)) (pw_or1 (pt_cmpR op_gt (pe_callB call_len_str (by rfl) T.b_len PySem.boot_len (pa_cons (pv 0) pa_nil)) pe_int (nomark _))))) (pss_one (ps_ret pe_bl)) pss_nil)
      (pss_one (ps_ret (pe_cmpR op_gt (pe_callB call_len_seq (by rfl) T.b_len PySem.boot_len (pa_cons (pe_lc (own := [("_law_sign", 1)]) (g := gName 1) (by rfl) scBad.nd (pi_str (pv 0)) (blkOk_by (own := [("_law_sign", 1)]) (N := ["_law_name_here", "_law_sign"]) (sc := defScope sBad) (by decide +kernel)) (fun _ _ _ _ _ => pg_name (i := 1) scBad.nd rfl (Or.inl rfl)) (fun _ _ _ _ _ => (pts_one (pt_cmpR op_notIn_sign (pv 1) pe_str rfl))) (fun _ _ _ _ _ => (pv 1))) pa_nil)) pe_int (nomark _))))), ?_⟩
    refine ⟨_, rfl, rfl, _, rfl, ?_⟩
    by_cases e0 : y = ""
    · subst e0
      refine if_t (by simp) ?_
      have z := k H same_rfl
      rw [show badN "" = true from by decide +kernel] at z
      exact z
    refine if_f (by simp [e0]) ?_
    have e0' : ¬ y.length < 1 := fun z => e0 (by
      have : y.cps.toList = [] := List.eq_nil_of_length_eq_zero (by simp [Str.length] at z ⊢; exact z)
      exact TL.ext_tl this)
    refine ⟨_, rfl, y, rfl, by have := fy.1; rw [sizeLine_eq]; omega, _, _, rfl, rfl, _, rfl, ?_⟩
    by_cases e1 : (12 : Int) < (y.length : Int)
    · refine if_t (decide_eq_true e1) ?_
      have z := k H same_rfl
      rw [show badN y = true from by unfold badN; rw [decide_eq_true (show 12 < y.length by omega), Bool.or_true, Bool.true_or]] at z
      exact z
    refine if_f (decide_eq_false e1) ?_
    refine ⟨_, rfl, y, rfl, fun D hD => ?_⟩
    refine lc_it walk_str (LcP D H fun i => y.cps.toList[i]?.bind fun c => if decide (c ∈ letters.cps.toList) = true then none else some (V.str ⟨#[c]⟩)) (LcP.start hD) (fun _ _ _ _ => trivial) ?_ ?_
    · rintro i x H3 H4 hi p ⟨rfl, c, hc, rfl⟩
      have hc' : y.cps.toList[i]? = some c := by rw [← hc]; simp
      refine ⟨rfl, _, rfl, c, letters, rfl, rfl, _, rfl, ?_⟩
      by_cases cl : c ∈ letters.cps.toList
      · exact if_f (by rw [decide_eq_true cl]; rfl) (p.skip same_rfl (by simp only [hc', Option.bind_some, decide_eq_true cl, if_true]))
      · refine if_t (by rw [decide_eq_false cl]; rfl) ⟨_, rfl, ?_⟩
        refine p.push hD same_rfl (by simp only [hc', Option.bind_some, decide_eq_false cl]; rfl) ?_
        have := fy.1
        have : y.cps.size = y.length := rfl
        omega
    rintro H3 ⟨g1, g2⟩
    have e2 : y.cps.size = y.cps.toList.length := by simp
    rw [e2, range_fm] at g1
    refine ⟨D, _, rfl, .inl (SqL.of g1), _, _, rfl, rfl, ?_⟩
    have z := k H3 g2
    have eb : badN y = decide ((0 : Int) < (((y.cps.toList.filterMap fun c => if decide (c ∈ letters.cps.toList) = true then none else some (V.str ⟨#[c]⟩)).length : Nat) : Int)) := by
      unfold badN
      rw [decide_eq_false e0', decide_eq_false (show ¬ 12 < y.length by omega), Bool.or_self, Bool.false_or, fm_any]
    rw [eb] at z
    exact z
theorem scDue : FnScope ["_law_rows", "_law_name_here", "_law_length", "_law_row"] ["_law_rows", "_law_name_here", "_law_length"] (defScope sDue) := ⟨rfl, rfl, rfl, by decide +kernel, rfl, by decide +kernel, by decide +kernel⟩
theorem ok_due {f : Addr} {fd fdBd : FuncData} (F : Fun K "_law_due" "_law_due" sDue f fd) (GBd : FnOk P w K mg base CX0 1 fBd fdBd ["_law_name_here"] spBad) (FBd : Fun K "_law_bad" "_law_bad" sBad fBd fdBd) (bBd : Binds K fdBd ["_law_name_here"] []) (T : LTxt mg fT fBd) : FnOk P w K mg base CX0 2 f fd ["_law_rows", "_law_name_here", "_law_length"] spDue := by
  refine F.ok scDue (fun vs H Q E h => ?_) (fun cdv A outer s H vs Q E hr h => ?_)
  · obtain ⟨rl, rows, y, L, rfl, _⟩ := h
    rfl
  · obtain ⟨rl, rows, y, L, rfl, R, h60, hF, fy, k⟩ := h
    refine ⟨_, (pss_cons (ps_if (pt_val (pe_call GBd hr rfl T.bad FBd.kp bBd .nil pass0 (pa_cons (pv 1) pa_nil))) (pss_one (ps_ret (pe_tup (pa_cons pe_str (pa_cons (pv 1) pa_nil))))) pss_nil)
      (pss_cons (ps_if (pt_cmpR (op_inD (Room.u65 hr)) (pv 1) (pe_lc (own := [("_law_row", 3)]) (g := gName 3) (tt := tYes) (by rfl) scDue.nd (pi_list (pv 0)) (blkOk_by (own := [("_law_row", 3)]) (N := ["_law_rows", "_law_name_here", "_law_length", "_law_row"]) (sc := defScope sDue) (by decide +kernel)) (fun _ _ _ _ _ => pg_name (i := 3) scDue.nd rfl (Or.inl rfl)) (fun _ _ _ _ _ => pts_nil) (fun _ _ _ _ _ => (pe_ix (r := rIxT K) ix_tup (pv 3) pe_int (fun _ _ => rfl)))) rfl) (pss_one (ps_ret (pe_tup (pa_cons pe_str (pa_cons (pv 1) pa_nil))))) pss_nil)
      (pss_cons (ps_if (pt_cmpR op_lt (pv 2) pe_int (nomark _)) (pss_one (ps_ret (pe_tup (pa_cons pe_str (pa_cons (pv 2) pa_nil))))) pss_nil)
      (pss_cons (ps_if (pt_cmpR op_gt (pe_callB call_len_seq (by rfl) T.b_len PySem.boot_len (pa_cons (pv 0) pa_nil)) pe_int (nomark _)) (pss_one (ps_ret (pe_tup (pa_cons pe_str (pa_cons pe_int pa_nil))))) pss_nil)
      (pss_one (ps_ret (pe_tup (pa_cons pe_str (pa_cons pe_non pa_nil))))))))), ?_⟩
    refine ⟨_, rfl, y, rfl, fy, fun H1 S1 => ⟨_, rfl, ?_⟩⟩
    have done : ∀ (d : Due) (t : Addr) (H2 : Hp) (vs : List V), Same H H2 → due rows y L = d → (∀ r l, due rows y L = d → dueV rows y L = vs) → H2 t = none → Q (.ref t) (upd H2 t (.tup vs)) := fun d t H2 vs S2 e1 e2 ht =>
      k t _ (same_tr S2 (same_new ht)) (by rw [upd_same, e2 rows L e1])
    by_cases cb : badN y = true
    · refine if_t cb ⟨_, rfl, by show 2 ≤ sizeLine; decide, fun t ht => ?_⟩
      have e : due rows y L = .name := by unfold due; rw [if_pos cb]
      exact done _ t _ _ S1 e (fun _ _ e => by unfold dueV; rw [e]) ht
    refine if_f (by simpa using cb) ?_
    obtain ⟨ts, hl, hts, hrow⟩ := R.same S1
    refine ⟨_, rfl, _, rfl, rl, rfl, ⟨_, SqL.of hl⟩, fun D hD => ?_⟩
    refine lc_it walk_list (LcP D H1 fun i => ((rows.map (·.1)).map V.str)[i]?) (LcP.start hD) (fun _ _ _ h => SqL.of (h.2 _ _ hl)) ?_ ?_
    · rintro i x H3 H4 hi p ⟨rfl, hx⟩
      rw [List.length_map] at hi
      rw [List.getElem?_map, List.getElem?_eq_getElem hi] at hx
      cases hx
      obtain ⟨⟨n, m⟩, hn⟩ : ∃ p, rows[i]? = some p := ⟨_, List.getElem?_eq_getElem (by omega)⟩
      have ht := hrow i _ n m (List.getElem?_eq_getElem hi) hn
      exact ⟨rfl, _, rfl, _, _, _, _, rfl, rfl, SqT.of (p.2 _ _ ht), rfl, p.push hD same_rfl (by rw [List.getElem?_map, List.getElem?_map, hn]; rfl) (by omega)⟩
    rintro H3 ⟨g1, g2⟩
    rw [List.length_map, hts, show rows.length = ((rows.map (·.1)).map V.str).length by simp, range_id] at g1
    have S3 := same_tr S1 g2
    refine ⟨.str y, (rows.map (·.1)).map PyData.str, .str y, .lst (SqL.of g1) (dp_strs _), shaped_str fy.2, shaped_strs (fun n hn => ?_), _, rfl, ?_⟩
    · obtain ⟨p, hp, rfl⟩ := List.mem_map.mp hn
      exact (hF p hp).2
    rw [any_strs]
    by_cases ck : known rows y = true
    · refine if_t ck ⟨_, rfl, by show 2 ≤ sizeLine; decide, fun t ht => ?_⟩
      have e : due rows y L = .taken := by unfold due; rw [if_neg cb, if_pos ck]
      exact done _ t _ _ S3 e (fun _ _ e => by unfold dueV; rw [e]) ht
    refine if_f (show known rows y = false from Bool.eq_false_iff.mpr ck) ?_
    refine ⟨_, rfl, _, _, rfl, rfl, _, rfl, ?_⟩
    by_cases cn : L < 0
    · refine if_t (decide_eq_true cn) ⟨_, rfl, by show 2 ≤ sizeLine; decide, fun t ht => ?_⟩
      have e : due rows y L = .number := by unfold due; rw [if_neg cb, if_neg ck, if_pos cn]
      exact done _ t _ _ S3 e (fun _ _ e => by unfold dueV; rw [e]) ht
    refine if_f (decide_eq_false cn) ?_
    have hl3 := g2 _ _ hl
    refine ⟨_, rfl, rl, _, rfl, .inl (SqL.of hl3), _, _, rfl, rfl, _, rfl, ?_⟩
    rw [List.length_map, hts]
    by_cases cm : (7 : Int) < (rows.length : Int)
    · refine if_t (decide_eq_true cm) ⟨by show 2 ≤ sizeLine; decide, fun t ht => ?_⟩
      have e : due rows y L = .many := by unfold due; rw [if_neg cb, if_neg ck, if_neg cn, if_pos (by omega)]
      exact done _ t _ _ S3 e (fun _ _ e => by unfold dueV; rw [e]) ht
    refine if_f (decide_eq_false cm) ⟨by show 2 ≤ sizeLine; decide, fun t ht => ?_⟩
    have e : due rows y L = .put := by unfold due; rw [if_neg cb, if_neg ck, if_neg cn, if_neg (by omega)]
    exact done _ t _ _ S3 e (fun _ _ e => by unfold dueV; rw [e]) ht
end
end Law

/-! the law's rows: a list of tuples (a text, an int), and the texts of them -/
namespace Law
open PySem PySem.Spec PyProof.Rows L2
theorem r_names {K : PySem.W.Frag} {i j : Nat} {σ : L2.St} {H : Hp} {Q : VK} {rl : Addr} {rows : List Row} (hi : σ[i]? = some (some (.ref rl))) (hij : i ≠ j) (hj : j < σ.length) (R : RowsAt H rl rows) (h60 : rows.length ≤ 900)
    (k : ∀ D H', H D = none → H' D = some (.lst ((rows.map (·.1)).map V.str)) → Same H H' → Q (.ref D) H') : tLc (iList K (tVar i)) (gName j) tYes (tOp (rIxT K) (tVar j) (tC (.int 0))) [j] σ H Q := by
  obtain ⟨ts, hl, hts, hrow⟩ := R
  refine ⟨_, hi, rl, rfl, ⟨_, SqL.of hl⟩, fun D hD => ?_⟩
  refine lc_it walk_list (LcP D H fun i => ((rows.map (·.1)).map V.str)[i]?) (LcP.start hD) (fun _ _ _ h => SqL.of (h.2 _ _ hl)) ?_ ?_
  · rintro m x H3 H4 hm p ⟨rfl, hx⟩
    rw [List.length_map] at hm
    rw [List.getElem?_map, List.getElem?_eq_getElem hm] at hx
    cases hx
    obtain ⟨⟨n, l⟩, hn⟩ : ∃ p, rows[m]? = some p := ⟨_, List.getElem?_eq_getElem (by omega)⟩
    have ht := hrow m _ n l (List.getElem?_eq_getElem hm) hn
    refine ⟨?_, _, ?_, _, _, _, _, rfl, rfl, SqT.of (p.2 _ _ ht), rfl, p.push hD same_rfl (by rw [List.getElem?_map, List.getElem?_map, hn]; rfl) (by omega)⟩
    · show List.set (List.set (List.set σ j none) j _) j none = List.set σ j none
      rw [List.set_set, List.set_set]
    · show (List.set (List.set σ j none) j _)[j]? = _
      rw [List.getElem?_set_self (by rw [List.length_set]; exact hj)]
  rintro H3 ⟨g1, g2⟩
  rw [List.length_map, hts, show rows.length = ((rows.map (·.1)).map V.str).length by simp, range_id] at g1
  exact k D H3 hD g1 g2
end Law

/-! Several except clauses, each with a name for the error. -/
namespace TryAs
open PySem PySem.Spec PyProof.Rows L2
abbrev Su := Addr → Value → Option Addr → TS
/-- the ends of a suite whose name in slot i goes behind it -/
def endsOf (i : Nat) (D : Ends) : Ends := { nx := fun σ' H' => D.nx (σ'.set i none) H', rt := D.rt, bk := fun σ' H' => D.bk (σ'.set i none) H', ct := fun σ' H' => D.ct (σ'.set i none) H' }
/-- what the clauses wish of an error, from the first on: class, slot of the name, suite -/
def wAsM (K : PySem.W.Frag) (Wout : WX) (D : Ends) : List (Value × Nat × Su) → WX
  | [] => Wout
  | (c, i, ts) :: r => fun cls d σ H => ∃ b, PySem.W.exmOne K cls c = some b ∧ (b = true → ∀ a, H a = none → ts a cls d (endsOf i D) (σ.set i (some (.ref a))) H) ∧ (b = false → wAsM K Wout D r cls d σ H)
inductive Hds (X : Cx) : List ExceptHandler → List (Value × Nat × Su) → Prop
  | nil : Hds X [] []
  | cons {x n : Str} {c : Value} {i : Nat} {ts : Su} {b₀ : Stmt} {suite : List Stmt} {np pos' : Pos} {hds : List ExceptHandler} {l : List (Value × Nat × Su)} (hi : X.N[i]? = some n) (hln : X.env.kindOf n = some .local) (hc : Names X x c)
      (hsu : ∀ (a : Addr) (oe : Obj) (cls : Value) (d : Option Addr) (pn : List (Addr × Obj)), Zc cls d oe → (∃ vs, oe.data = .fields vs) → PSs (X.suite a ((a, oe) :: pn)) (b₀ :: suite) (ts a cls d)) (r : Hds X hds l) :
      Hds X (.ExceptHandler (some (.Name x np)) (some n) (b₀ :: suite) pos' :: hds) ((c, i, ts) :: l)
section
variable {X : Cx} {body : List Stmt} {h₀ : ExceptHandler} {hds : List ExceptHandler} {l : List (Value × Nat × Su)} {pos : Pos} {tb : WX → TS} {Wout : WX}
theorem ps_try_asM (hs : X.stack = X.env :: X.outer) (hf : X.env.frame = some X.env.locals) (hN : X.N.Nodup) (tk : Takes X Wout)
    (hb : ∀ (W : WX) (pn : List (Addr × Obj)) (xe : Value → Shared → Prop), Takes (X.tr pn xe) W → PassesOwn (model X.prog X.w) X.A X.env xe → PSs (X.tr pn xe) body (tb W))
    (hh : Hds X (h₀ :: hds) l) : PS X (.Try body (h₀ :: hds) [] [] pos) (fun D σ H => tb (wAsM X.K Wout D l) D σ H) := by
  refine ⟨fun pins s σ H D I h => wpAny_Try_except ?_⟩
  have ok := I.ok
  have hfr : X.A.frames = some (X.env :: X.outer) := by rw [ok.frames, hs]
  refine wpAny_mono ((hb (wAsM X.K Wout D l) (X.pn ++ pins) (fun e s₁ => wpAny (model X.prog X.w) X.A (noteFrame e X.env) (fun _ s₂ => wpAny (model X.prog X.w) X.A (setFlight e none) (fun _ s₃ =>
    wpAny (model X.prog X.w) X.A (handleBy e X.env (h₀ :: hds)) (SP X pins D) X.xe s₃) X.xe s₂) X.xe s₁) (fun u s' xx => ?_) PassesOwn.looking).run [] s σ H D (I.toTry _) h) (fun f s1 hsp => ?_) (fun e s1 he => he)
  · obtain ⟨a, B, sI, pins', σ', H', cls, d, rfl, J', nb, up, sky, na, os, ag, w⟩ := xx
    have J : Inv X pins σ' H' sI := J'.ofTry ok
    show wpAny (model X.prog X.w) X.A (noteFrame (.ref a) X.env) _ _ _
    refine Sky.land Zc.steady hfr hf (show Sky B (X.env :: X.outer) a (Zc cls d) X.env.locals s'.heap by rw [← hs]; exact sky) fun h3 fl3 up3 => ?_
    have J3 : Inv X pins σ' H' { s' with heap := h3 } := J.landed nb fl3.1 (up.trans up3) os ag
    obtain ⟨oe3, vs3, he3, hz3, hd3⟩ := fl3.there
    have nfr : a ∉ frs (X.env :: X.outer) := fun hm => by
      obtain ⟨_, o', e', hnf⟩ := fl3.2.2.1.mem hm
      rw [he3] at e'
      cases e'
      exact hnf _ hd3
    have nL : a ≠ X.env.locals := fun z => nfr (List.mem_filterMap.mpr ⟨X.env, List.mem_cons_self, by rw [hf, z]⟩)
    have nF : a ∉ X.fs := fun hm => by
      obtain ⟨e, he, q⟩ := List.mem_filterMap.mp hm
      exact nfr (List.mem_filterMap.mpr ⟨e, List.mem_cons_of_mem _ he, q⟩)
    have S3 := J3.suite he3 hd3 na nL nF
    have go : ∀ {hds' : List ExceptHandler} {l' : List (Value × Nat × Su)}, Hds X hds' l' → wAsM X.K Wout D l' cls d σ' H' →
        wpAny (model X.prog X.w) X.A (handleBy (.ref a) X.env hds') (SP X pins D) X.xe { s' with heap := h3 } := fun {hds' l'} hk => by
      induction hk with
      | nil =>
        intro w
        refine wpAny_handleBy_nil ?_
        obtain ⟨k1, k2, k3, oe, vs, T, oT, ts', he, hz, hd, h1, hr⟩ := id fl3
        unfold PySem.passOn
        refine wpAny_bind (wpAny_field he hd h1 ?_)
        rw [if_neg (show ¬ ((Value.ref T == Value.none) = true) from by simp)]
        have fin : wpAny (model X.prog X.w) X.A (setFlight (.ref a) X.env.frame) (fun _ s4 => wpAny (model X.prog X.w) X.A (throw (.ref a) : Sem Flow) (SP X pins D) X.xe s4) X.xe { s' with heap := h3 } := by
          rw [hf]
          exact HandSPX.setFlight_upZ fl3 fun h4 hh4 up4 => wpAny_throw (tk _ _ ⟨a, B, sI, pins, σ', H', cls, d, rfl, J, nb, (up.trans up3).trans up4, .inr (.inr (by rw [hs]; exact hh4)), na, os, ag, w⟩)
        first
          | exact wpAny_bind (wpAny_pure (wpAny_bind fin))
          | exact wpAny_bind fin
      | @cons x n c i ts b₀ suite np pos' hds2 l2 hi hln hc hsu r ih =>
        intro w
        obtain ⟨b, hb1, hyes, hno⟩ := w
        refine wpAny_handleBy_cons (codeAny_handlers_test ?_) (by intro q; cases q)
        have LT : PySem.W.Looks (model X.prog X.w) h3 (typeOf (.ref a)) cls := fun A Q E s k q => wpAny_typeOf_ref (k _ _ he3) (by rw [hz3.1]; exact q)
        have LM := PySem.W.exm_one (M := model X.prog X.w) (J3.kIn) LT hb1
        have test : ∀ {Q : Value → Shared → Prop} {E : Value → Shared → Prop}, Q c { s' with heap := h3 } → wpAny (model X.prog X.w) (X.A.mark (some (.ref a))) (eval (.Name x np) X.env) Q E { s' with heap := h3 } := fun {Q E} q => by
          obtain ⟨hg, hdbg, hm | ⟨hm, hv, hnn⟩⟩ := hc
          · exact ld_glob (X := X.suite a ((a, oe3) :: (X.pn ++ pins))) S3 hg hm q hdbg
          · exact ld_blt (X := X.suite a ((a, oe3) :: (X.pn ++ pins))) S3 hg hm hv q hnn hdbg
        refine test (LM.here ?_)
        cases b with
        | false => exact ih (hno rfl)
        | true =>
          refine codeAny_handlers_suite_as (HandSPX.lands_againZ fl3 fun h4 fl4 up4 => ?_)
          have J4 : Inv X pins σ' H' { s' with heap := h4 } := J.landed nb fl4.1 ((up.trans up3).trans up4) os ag
          obtain ⟨oe4, vs4, he4, hz4, hd4⟩ := fl4.there
          refine store_ok (X := X.suite a ((a, oe4) :: (X.pn ++ pins))) (v := .ref a) (J4.suite he4 hd4 na nL nF) hN hi (.inl hln) rfl (fun s5 S5 => ?_) (.inr hln)
          refine wpAny_mono ((hsu a oe4 cls d (X.pn ++ pins) hz4 ⟨_, hd4⟩).run [] s5 _ H' _ S5 (hyes rfl a na)) (fun f s6 hsp => ?_) (fun _ _ z => False.elim z)
          cases f with
          | next =>
            obtain ⟨σ6, H6, S6, q6⟩ := hsp
            exact gone_ok (S6.unsuite ok) hN hi hln fun s7 J7 => ⟨_, _, J7, q6⟩
          | brk =>
            obtain ⟨σ6, H6, S6, q6⟩ := hsp
            exact gone_ok (S6.unsuite ok) hN hi hln fun s7 J7 => ⟨_, _, J7, q6⟩
          | cont =>
            obtain ⟨σ6, H6, S6, q6⟩ := hsp
            exact gone_ok (S6.unsuite ok) hN hi hln fun s7 J7 => ⟨_, _, J7, q6⟩
          | ret u =>
            obtain ⟨v6, σ6, H6, S6, r6, q6⟩ := hsp
            exact gone_ok (S6.unsuite ok) hN hi hln fun s7 J7 => ⟨_, _, _, J7, r6, q6⟩
    exact go hh w
  · cases f with
    | next =>
      obtain ⟨σ', H', J', q⟩ := hsp
      exact wpAny_execs_nil ⟨σ', H', J'.ofTry ok, q⟩
    | brk =>
      obtain ⟨σ', H', J', q⟩ := hsp
      exact ⟨σ', H', J'.ofTry ok, q⟩
    | cont =>
      obtain ⟨σ', H', J', q⟩ := hsp
      exact ⟨σ', H', J'.ofTry ok, q⟩
    | ret u =>
      obtain ⟨v, σ', H', J', r, q⟩ := hsp
      exact ⟨v, σ', H', J'.ofTry ok, r, q⟩
end
end TryAs

/-! len and in of instances by their own defs; methods that raise, in a try. -/
namespace Own
open PySem PySem.Spec PyProof.Rows L2
section
variable {X : Cx} {CX : CXT} {k : Nat} {C g : Addr} {sp : Sp} {E : XK}
def rLenO (C : Addr) (sp : Sp) (E : XK) : List V → Hp → VK → Prop := fun xs H Q => ∃ a dx fs, xs = [.ref a] ∧ H a = some (.ins C dx fs) ∧ sp [.ref a] H (fun v H' => ∃ n : Nat, v = .int n ∧ n < 2 ^ 62 ∧ Q v H') E
theorem call_lenO (F : FnR X.prog X.w X.K X.mg X.base CX k g sp) (hs : PySem.W.findIn X.K (.ref C) "__len__" = some (some (.ref g))) (hf : PySem.W.isFn X.K (.ref g) = true)
    (hr : Room (k + 1) X.A) (hx : Passes CX X E) : CallR X (.builtin "len") (rLenO C sp E) := by
  intro pins s σ H xs us Q I r h
  obtain ⟨a, dx, fs, rfl, ha, hsp⟩ := h
  obtain ⟨u, rfl, r1⟩ : ∃ u, us = [u] ∧ RelV (.ref a) u := by
    cases r with
    | cons r1 rr =>
      cases rr
      exact ⟨_, rfl, r1⟩
  cases r1
  obtain ⟨mA, J, _⟩ := ins_get I.hok ha
  obtain ⟨od, J, _⟩ := J.look
  obtain ⟨m, hF⟩ := I.fr
  refine PySem.W.len_K hF I.ok.mod.kin J hs hf (wpAny_mono (run_at F hr.in1 I.env0.frames hx I (us := [.ref a]) (vs := [.ref a]) (.cons rfl .nil) hsp) (fun u s' z => ?_) fun _ _ z => z)
  obtain ⟨v, H', I', rv, n, rfl, hn, q⟩ := z
  obtain ⟨t, rfl⟩ := rv
  exact ⟨⟨by omega, by omega⟩, .int n, H', I'.tok _, ⟨_, rfl⟩, q⟩
/-- x in o, o an instance -/
def rInO (C : Addr) (sp : Sp) (E : XK) : R2 := fun x y H Q => ∃ a dx fs, y = .ref a ∧ H a = some (.ins C dx fs) ∧ sp [.ref a, x] H (fun v H' => ∃ t, v = .bl t ∧ Q v H') E
theorem op_inO (F : FnR X.prog X.w X.K X.mg X.base CX k g sp) (hs : PySem.W.findIn X.K (.ref C) "__contains__" = some (some (.ref g))) (hf : PySem.W.isFn X.K (.ref g) = true)
    (hr : Room k X.A) (hx : Passes CX X E) : OpR X (compareOp .In) (rInO C sp E) := by
  intro pins s σ H x y v u Q I rx ry h
  obtain ⟨a, dx, fs, rfl, ha, hsp⟩ := h
  cases ry
  obtain ⟨mA, J, _⟩ := ins_get I.hok ha
  obtain ⟨od, J, _⟩ := J.look
  obtain ⟨m, hF⟩ := I.fr
  refine PySem.W.in_K hF I.ok.mod.kin J hs hf ?_
  refine wpAny_mono (run_at F hr I.env0.frames hx I (us := [.ref a, v]) (vs := [.ref a, x]) (.cons rfl (.cons rx .nil)) hsp) (fun u s' z => ?_) fun _ _ z => z
  obtain ⟨w, H', I', rv, t, rfl, q⟩ := z
  cases rv
  exact wpAny_truthy_bool ⟨.bl t, H', I', rfl, q⟩
end
section
variable {X : Cx} {CX : CXT} {k : Nat} {C f : Addr} {sp : Sp} {E : L2.St → XK} {m : Str} {o e : Expr} {es : List Expr} {t : TA} {ta : TE} {p pos apos : Pos}
/-- o.m(e, ..) that may raise, at the slots σ -/
def tMethS (C : Addr) (m : Str) (sp : Sp) (E : L2.St → XK) (ta : TE) (t : TA) : TE := fun σ H Q => ta σ H fun x H1 => ∃ a dx fs, x = .ref a ∧ H1 a = some (.ins C dx fs) ∧ fs.lookup m = none ∧ t σ H1 fun vs H2 => sp (x :: vs) H2 Q (E σ)
theorem pe_methW {pl : Sem Bool} (he : PE X o ta) (c : Cls X.K C) (hm : Meth X.K C m f) (F : FnR X.prog X.w X.K X.mg X.base CX k f sp) (hr : Room k X.A) (hx : ∀ σ, PassesAt CX X σ (E σ)) (ha : PA X (e :: es) t)
    (hst : starEach (e :: es) X.env = (false, eval e X.env) :: starEach es X.env := by rfl) (hpl : (backTo pos (starEach es X.env)).any (·.1) = false := by rfl)
    (ht : eval (.Call (.Attribute o m apos) (e :: es) [] pos) X.env = (do
      let ov ← eval o X.env
      standAt apos.atName
      let (f, first) ← holding [ov] (getMethod ov m pl)
      callWith pos f first (backTo pos (starEach (e :: es) X.env)) (backToKw pos (keywordEach [] X.env))) := by rfl) :
    PE X (.Call (.Attribute o m apos) (e :: es) [] pos) (tMethS C m sp E ta t) := by
  refine ⟨fun pins s σ H Q I h => ?_⟩
  refine PySem.W.methodCall_KW (pl := pl) (thn (he.run pins s σ H _ I h) fun u s1 ⟨x, H1, I1, rx, a, dx, fs, ex, ea, l, q⟩ => ?_) ht
  subst ex
  obtain rfl : u = Value.ref a := rx
  refine getmeth_ok I1 ea c hm l ?_
  refine PySem.W.callWith_K (first := [.ref a]) (h₀ := X.base) I.ok.mod.kin hm.kp (thn (ha.run pos pins s1 σ H1 _ I1 q) fun us s2 ⟨vs, H2, I2, r, q2⟩ => ⟨I2.kIn, ?_⟩) hst hpl
  exact wpAny_call (run_fnRS (us := .ref a :: us) (vs := .ref a :: vs) F hr (hx σ) I2 (.cons rfl r) q2)
end
end Own

namespace Law
open PySem PySem.Spec PyProof.Rows L2 Sup
/-- no error of one of these classes is one of another -/
structure Apart (K : PySem.W.Frag) (C : Errs) : Prop where
  tn : PySem.W.exmOne K (.ref C.T) (.ref C.N) = some false
  bn : PySem.W.exmOne K (.ref C.B) (.ref C.N) = some false
  bt : PySem.W.exmOne K (.ref C.B) (.ref C.T) = some false
  mn : PySem.W.exmOne K (.ref C.M) (.ref C.N) = some false
  mt : PySem.W.exmOne K (.ref C.M) (.ref C.T) = some false
  mb : PySem.W.exmOne K (.ref C.M) (.ref C.B) = some false
  nm : PySem.W.exmOne K (.ref C.N) (.ref C.M) = some false
  bm : PySem.W.exmOne K (.ref C.B) (.ref C.M) = some false
def spPutL (CR : Addr) : Sp := fun vs H Q _ => ∃ (r d : Addr) (rows : List Row) (y : Str) (L : Int), vs = [.ref r, .str y, .int L] ∧ Rck CR H r d rows ∧ rows.length ≤ 8 ∧ Fit y ∧ L.natAbs < 2 ^ 1000 ∧
  (due rows y L ≠ .put → ∀ (t : Addr) (H' : Hp), Same H H' → H' t = some (.tup (dueV rows y L)) → Q (.ref t) H') ∧
  (due rows y L = .put → ∀ (t : Addr) (H' : Hp), Same (upd H d (.dK (kvs (rows ++ [(y, L)])))) H' → H' t = some (.tup (dueV rows y L)) → Q (.ref t) H')
def spUnk (CR : Addr) : Sp := fun vs H Q _ => ∃ (r d : Addr) (rows : List Row) (y : Str), vs = [.ref r, .str y] ∧ Rck CR H r d rows ∧ Fit y ∧ known rows y = false ∧ ∀ H', Same H H' → Q (.bl true) H'
structure UnkTxt (K : PySem.W.Frag) (mg : Str → Option Value) (CU B : Addr) : Prop where
  ex : ExcC K CU
  gB : mg "LadderError" = some (.ref B)
  isi : mg "isinstance" = none
  k1 : PySem.W.kitOne K (.ref CU) (.ref B) = some true
def tIsU (K : PySem.W.Frag) (C a : Addr) (cls : Value) (d : Option Addr) (B : Addr) : TE := tCB (rIsD K C a cls d) (tCons (tVar 2) (tCons (tC (.ref B)) tNil))
section
variable {P : Program} {w : World} {K : PySem.W.Frag} {mg : Str → Option Value} {base : Heap} {C : Errs} {CR BE : Addr}
theorem scPutL : FnScope ["_law_rack", "_law_name_here", "_law_length", "_law_told", "e"] ["_law_rack", "_law_name_here", "_law_length"] (defScope sPutL) := ⟨rfl, rfl, rfl, by decide +kernel, rfl, by decide +kernel, by decide +kernel⟩
theorem ok_putL {f fP : Addr} {fd : FuncData} (F : Fun K "_law_put" "_law_put" sPutL f fd) (RN : ErrOk P w K mg base "BadName" C.N "name" okTxt) (RT : ErrOk P w K mg base "TakenName" C.T "name" okTxt) (RB : ErrOk P w K mg base "BadNumber" C.B "value" okInt) (RM : ErrOk P w K mg base "TooMany" C.M "count" okInt)
    (GP : FnR P w K mg base (L2.CX P w) 5 fP (spPut C CR)) (MP : Meth K CR "put" fP) (cl : Cls K CR) (U : Apart K C) : FnOk P w K mg base CX0 6 f fd ["_law_rack", "_law_name_here", "_law_length"] (spPutL CR) := by
  refine F.ok scPutL (fun vs H Q E h => ?_) (fun cdv A outer s H vs Q E hr h => ?_)
  · obtain ⟨r, d, rows, y, L, rfl, _⟩ := h
    rfl
  · obtain ⟨r, d, rows, y, L, rfl, hR, h8, fy, sL, k1, k2⟩ := h
    refine ⟨_, (pss_cons (TryAs.ps_try_asM (l := [((Value.ref C.N : Value), 4, (fun a cls d => tRet (tTup (tCons (tC (.str "BadName")) (tCons (tXf a cls d C.N "name" (tVar 4)) tNil))) : TryAs.Su)), ((Value.ref C.T : Value), 4, (fun a cls d => tRet (tTup (tCons (tC (.str "TakenName")) (tCons (tXf a cls d C.T "name" (tVar 4)) tNil))) : TryAs.Su)), ((Value.ref C.B : Value), 4, (fun a cls d => tRet (tTup (tCons (tC (.str "BadNumber")) (tCons (tXf a cls d C.B "value" (tVar 4)) tNil))) : TryAs.Su)), ((Value.ref C.M : Value), 4, (fun a cls d => tRet (tTup (tCons (tC (.str "TooMany")) (tCons (tXf a cls d C.M "count" (tVar 4)) tNil))) : TryAs.Su))]) (tb := fun W => tAsg (Own.tMethS CR "put" (spPut C CR) (WE W) (tVar 0) (tCons (tVar 1) (tCons (tVar 2) tNil))) (gName 3)) (Wout := fun _ _ _ _ => False) rfl rfl scPutL.nd takes0
        (fun W pn xe tk _ => pss_one (ps_set (i := 3) scPutL.nd rfl (Or.inl rfl) (by exact (Own.pe_methW (E := WE W) (pv 0) cl MP GP hr (fun σ => passAt tk σ) (by exact (pa_cons (pv 1) (pa_cons (pv 2) pa_nil)))))))
        (.cons (i := 4) rfl rfl ⟨rfl, by decide, Or.inl RN.g⟩ (fun a oe cls d pn hz hf => pss_one (ps_ret (pe_tup (pa_cons pe_str (by exact (pa_cons (pe_xf RN.xf RN.no hz hf (pv 4)) pa_nil)))))) (.cons (i := 4) rfl rfl ⟨rfl, by decide, Or.inl RT.g⟩ (fun a oe cls d pn hz hf => pss_one (ps_ret (pe_tup (pa_cons pe_str (by exact (pa_cons (pe_xf RT.xf RT.no hz hf (pv 4)) pa_nil)))))) (.cons (i := 4) rfl rfl ⟨rfl, by decide, Or.inl RB.g⟩ (fun a oe cls d pn hz hf => pss_one (ps_ret (pe_tup (pa_cons pe_str (by exact (pa_cons (pe_xf RB.xf RB.no hz hf (pv 4)) pa_nil)))))) (.cons (i := 4) rfl rfl ⟨rfl, by decide, Or.inl RM.g⟩ (fun a oe cls d pn hz hf => pss_one (ps_ret (pe_tup (pa_cons pe_str (by exact (pa_cons (pe_xf RM.xf RM.no hz hf (pv 4)) pa_nil)))))) .nil)))))
      (pss_one (ps_ret (pe_tup (pa_cons pe_str (pa_cons (pv 3) pa_nil)))))), ?_⟩
    obtain ⟨⟨dx, fs, w1, w2, w3⟩, w4⟩ := id hR
    have go : ∀ {d' t : Addr} {H' : Hp} {o o' : HO}, H' d' = none → (upd H' d' o) t = none → Same H' (upd (upd H' d' o) t o') := fun h1 h2 => same_tr (same_new h1) (same_new h2)
    refine ⟨_, rfl, r, dx, fs, rfl, w1, w3 _ (by decide), _, rfl, _, rfl, r, d, rows, y, L, rfl, hR, by omega, fy, sL, ⟨fun e H' d' S hd => ?_, fun e H' d' S hd => ?_, fun e H' d' S hd => ?_, fun e H' d' S hd => ?_⟩, fun e => ?_⟩
    · refine ⟨true, RN.te, fun _ q ha => ?_, fun z => Bool.noConfusion z⟩
      refine ⟨_, rfl, rfl, rfl, d', _, _, rfl, upd_same, rfl, by show 2 ≤ sizeLine; decide, fun t ht => ?_⟩
      exact k1 (by rw [e]; decide) t _ (same_tr S (go hd ht)) (by rw [upd_same]; unfold dueV; rw [e])
    · refine ⟨false, U.tn, fun z => Bool.noConfusion z, fun _ => ⟨true, RT.te, fun _ q ha => ?_, fun z => Bool.noConfusion z⟩⟩
      refine ⟨_, rfl, rfl, rfl, d', _, _, rfl, upd_same, rfl, by show 2 ≤ sizeLine; decide, fun t ht => ?_⟩
      exact k1 (by rw [e]; decide) t _ (same_tr S (go hd ht)) (by rw [upd_same]; unfold dueV; rw [e])
    · refine ⟨false, U.bn, fun z => Bool.noConfusion z, fun _ => ⟨false, U.bt, fun z => Bool.noConfusion z, fun _ => ⟨true, RB.te, fun _ q ha => ?_, fun z => Bool.noConfusion z⟩⟩⟩
      refine ⟨_, rfl, rfl, rfl, d', _, _, rfl, upd_same, rfl, by show 2 ≤ sizeLine; decide, fun t ht => ?_⟩
      exact k1 (by rw [e]; decide) t _ (same_tr S (go hd ht)) (by rw [upd_same]; unfold dueV; rw [e])
    · refine ⟨false, U.mn, fun z => Bool.noConfusion z, fun _ => ⟨false, U.mt, fun z => Bool.noConfusion z, fun _ => ⟨false, U.mb, fun z => Bool.noConfusion z, fun _ => ⟨true, RM.te, fun _ q ha => ?_, fun z => Bool.noConfusion z⟩⟩⟩⟩
      refine ⟨_, rfl, rfl, rfl, d', _, _, rfl, upd_same, rfl, by show 2 ≤ sizeLine; decide, fun t ht => ?_⟩
      have e8 : (rows.length : Int) + 1 = 9 := by
        have : 8 ≤ rows.length := by
          unfold due at e
          split at e; cases e
          split at e; cases e
          split at e; cases e
          split at e
          · assumption
          · cases e
        omega
      exact k1 (by rw [e]; decide) t _ (same_tr S (go hd ht)) (by rw [upd_same]; unfold dueV; rw [e, e8])
    · refine ⟨_, rfl, by show 2 ≤ sizeLine; decide, fun t ht => ?_⟩
      exact k2 e t _ (same_new ht) (by rw [upd_same]; unfold dueV; rw [e])
theorem scUnk : FnScope ["_law_rack", "_law_name_here", "e"] ["_law_rack", "_law_name_here"] (defScope sUnk) := ⟨rfl, rfl, rfl, by decide +kernel, rfl, by decide +kernel, by decide +kernel⟩
theorem ok_unk {f fL : Addr} {fd : FuncData} (F : Fun K "_law_unknown" "_law_unknown" sUnk f fd) (RU : ErrOk P w K mg base "UnknownName" C.U "name" okTxt) (GL : FnR P w K mg base (L2.CX P w) 4 fL (spLof C CR)) (ML : Meth K CR "length_of" fL) (cl : Cls K CR) (U : UnkTxt K mg C.U BE) : FnOk P w K mg base CX0 5 f fd ["_law_rack", "_law_name_here"] (spUnk CR) := by
  refine F.ok scUnk (fun vs H Q E h => ?_) (fun cdv A outer s H vs Q E hr h => ?_)
  · obtain ⟨r, d, rows, y, rfl, _⟩ := h
    rfl
  · obtain ⟨r, d, rows, y, rfl, hR, fy, hk, k⟩ := h
    refine ⟨_, (pss_cons (ps_try_as (i := 2) (tb := fun W => tDrop (Own.tMethS CR "length_of" (spLof C CR) (WE W) (tVar 0) (tCons (tVar 1) tNil))) (ts := fun a cls d => tRet (tAndV (tIsU K C.U a cls d BE) (tOp rEq (tXf a cls d C.U "name" (tVar 2)) (tVar 1))))
        (Wout := fun _ _ _ _ => False) rfl rfl scUnk.nd rfl rfl ⟨rfl, by decide, Or.inl RU.g⟩ takes0
        (fun W pn xe tk _ => pss_one (ps_expr (by exact (Own.pe_methW (E := WE W) (pv 0) cl ML GL hr (fun σ => passAt tk σ) (by exact (pa_cons (pv 1) pa_nil))))))
        (fun a oe cls d pn hz hf => pss_one (ps_ret (pe_and (by exact (pe_callB (call_isD U.ex hz hf) (by rfl) U.isi (by decide +kernel) (pa_cons (pv 2) (pa_cons (pe_glob rfl U.gB rfl) pa_nil)))) (pe_one (pe_cmpR op_eq (by exact (pe_xf RU.xf RU.no hz hf (pv 2))) (pv 1) (nomark _)))))))
      (pss_one (ps_ret pe_bl))), ?_⟩
    obtain ⟨⟨dx, fs, w1, w2, w3⟩, w4⟩ := id hR
    have hn : rows.lookup y = none := by
      rw [known_iff] at hk
      cases e : rows.lookup y with
      | none => rfl
      | some v =>
        rw [e] at hk
        cases hk
    refine ⟨_, rfl, r, dx, fs, rfl, w1, w3 _ (by decide), _, rfl, r, d, rows, y, rfl, hR, fy, fun _ H' d' S hd => ⟨true, RU.te, fun _ q ha => ?_, fun z => Bool.noConfusion z⟩, fun L e => by rw [hn] at e; cases e⟩
    refine ⟨_, rfl, _, _, true, d', _, rfl, rfl, rfl, upd_same, fun u z => z, U.k1, true, rfl, ?_⟩
    refine if_t rfl ⟨_, rfl, rfl, rfl, d', _, _, rfl, upd_same, rfl, _, rfl, rfl, ?_⟩
    have e : decide (V.str y = V.str y) = true := decide_eq_true rfl
    show Q (V.bl (decide (V.str y = V.str y))) _
    rw [e]
    exact k _ (same_tr S (same_new hd))
/-- C(..) of racks -/
theorem mk_rack {ks : List Str} {zs : List V} {E : XK} {H1 : Hp} {Q : VK} (rows : List Row) (hk : KwX.kwD ks zs = kvs rows) (hl : zs.length = ks.length) (h60 : rows.length ≤ 60) (hall : ∀ p ∈ rows, Fit p.1 ∧ p.2.natAbs < 2 ^ 1000)
    (hm : 8 < rows.length → BadX C.M "count" E H1 (.int rows.length)) (hr : rows.length ≤ 8 → ∀ acc y L, firstBad [] rows = some (acc, y, L) → Refused C E H1 acc y L)
    (hok : rows.length ≤ 8 → firstBad [] rows = none → ∀ (x d : Addr) (H' : Hp), H1 x = none → H1 d = none → x ≠ d → Same H1 H' → Rck CR H' x d rows → Q (.ref x) H') : KwX.MkW CR ks (spRini C CR) E zs H1 Q := by
  refine ⟨hl, fun x dx d0 nx ndx n1 nd0 n2 n3 => ?_⟩
  have S0 : ∀ {H'}, But x d0 (upd (upd (upd H1 dx (.own x)) x (.ins CR dx [])) d0 (.dK (KwX.kwD ks zs))) H' → Same H1 H' := fun {H'} g b o e => by
    have m1 : b ≠ x := ne_of_none e nx
    have m2 : b ≠ dx := ne_of_none e ndx
    have m3 : b ≠ d0 := ne_of_none e nd0
    exact g b o m1 m3 (by rw [upd_ne m3, upd_ne m1, upd_ne m2]; exact e)
  refine ⟨x, dx, d0, rows, rfl, by rw [upd_ne (Ne.symm n2), upd_same], by rw [upd_same, hk], h60, hall, fun c H' d' g hd => hm c H' d' (S0 g) hd, fun c => ⟨fun acc y L e => ?_, fun e d' H' hd R g => ⟨rfl, ?_⟩⟩⟩
  · obtain ⟨r1, r2, r3, r4⟩ := hr c acc y L e
    exact ⟨fun z H' d' g hd => r1 z H' d' (S0 g) hd, fun z H' d' g hd => r2 z H' d' (S0 g) hd, fun z H' d' g hd => r3 z H' d' (S0 g) hd, fun z H' d' g hd => r4 z H' d' (S0 g) hd⟩
  · have m1 : d' ≠ x := fun z => by
      subst z
      rw [upd_ne (Ne.symm n2), upd_same] at hd
      cases hd
    have m2 : d' ≠ d0 := fun z => by
      subst z
      rw [upd_same] at hd
      cases hd
    have hd1 : H1 d' = none := by
      rw [upd_ne m2, upd_ne m1] at hd
      by_cases z : d' = dx
      · subst z
        exact ndx
      · rw [upd_ne z] at hd
        exact hd
    exact hok c e x d' H' nx hd1 (Ne.symm m1) (S0 g) R
instance {y : Str} : Decidable (Fit y) := by unfold Fit; infer_instance
theorem mk_rack2 {ks : List Str} {zs : List V} {E : XK} {H1 : Hp} {Q : VK} (rows : List Row) (hk : KwX.kwD ks zs = kvs rows) (hl : zs.length = ks.length) (h60 : rows.length ≤ 60) (hF : ∀ y ∈ rows.map (·.1), Fit y) (hN : ∀ p ∈ rows, p.2.natAbs ≤ 100)
    (hm : 8 < rows.length → BadX C.M "count" E H1 (.int rows.length)) (hr : rows.length ≤ 8 → ∀ acc y L, firstBad [] rows = some (acc, y, L) → Refused C E H1 acc y L)
    (hok : rows.length ≤ 8 → firstBad [] rows = none → ∀ (x d : Addr) (H' : Hp), H1 x = none → H1 d = none → x ≠ d → Same H1 H' → Rck CR H' x d rows → Q (.ref x) H') : KwX.MkW CR ks (spRini C CR) E zs H1 Q :=
  mk_rack rows hk hl h60 (fun p hp => ⟨hF _ (List.mem_map.mpr ⟨p, hp, rfl⟩), Nat.lt_of_le_of_lt (hN p hp) (by decide +kernel)⟩) hm hr hok
theorem fb_put {acc : List Row} {y : Str} {L : Int} {r : List Row} (h1 : badN y = false) (h2 : known acc y = false) (h3 : 0 ≤ L) (h4 : acc.length < 8) : firstBad acc ((y, L) :: r) = firstBad (acc ++ [(y, L)]) r := by
  have e : due acc y L = .put := by
    unfold due
    rw [if_neg (by rw [h1]; decide), if_neg (by rw [h2]; decide), if_neg (by omega), if_neg (by omega)]
  show (if due acc y L = .put then _ else _) = _
  rw [if_pos e]
theorem fb_bad {acc : List Row} {y : Str} {L : Int} {r : List Row} (h : due acc y L ≠ .put) : firstBad acc ((y, L) :: r) = some (acc, y, L) := by
  show (if due acc y L = .put then _ else _) = _
  rw [if_neg h]
def refV (way : Int) : List V := if way = 0 then [.str "BadName", .str "Ash"] else if way = 1 then [.str "TooMany", .int 9] else [.str "TooMany", .int 10]
def spRefu : Sp := fun vs H Q _ => ∃ way : Int, vs = [.int way] ∧ ∀ (t : Addr) (H' : Hp), Same H H' → H' t = some (.tup (refV way)) → Q (.ref t) H'
def spKey : Sp := fun vs H Q _ => ∃ v r : Int, vs = [.int v, .int r] ∧ 0 ≤ v ∧ v ≤ 8 ∧ (r = v ∨ r = -1 - v) ∧ ∀ (t : Addr) (H' : Hp), Same H H' → H' t = some (.tup (if r < 0 then [.str "BadNumber", .int r] else [.str "TooMany", .int 9])) → Q (.ref t) H'
abbrev ksA : List Str := ["oak", "Ash"]
abbrev ksB : List Str := ["oak", "ash", "fir", "elm", "yew", "ivy", "alder", "rowan", "lime"]
abbrev ksC : List Str := ["Oak", "ash", "fir", "elm", "yew", "ivy", "alder", "rowan", "lime", "holly"]
abbrev ksD : List Str := ["ash", "fir", "oak", "elm", "yew", "ivy", "alder", "rowan"]
abbrev ksE : List Str := ["ash", "fir", "oak", "elm", "yew", "ivy", "alder", "rowan", "lime"]
abbrev ksF : List Str := ["birch", "ash"]
structure MkRack (P : Program) (w : World) (K : PySem.W.Frag) (mg : Str → Option Value) (base : Heap) (C : Errs) (CR fI : Addr) : Prop where
  g : mg "Rack" = some (.ref CR)
  M : Mk K CR fI
  r0 : KwX.FnKw P w K mg base (L2.CX P w) 6 fI [] (spRini C CR)
  rksA : KwX.FnKw P w K mg base (L2.CX P w) 6 fI ksA (spRini C CR)
  rksB : KwX.FnKw P w K mg base (L2.CX P w) 6 fI ksB (spRini C CR)
  rksC : KwX.FnKw P w K mg base (L2.CX P w) 6 fI ksC (spRini C CR)
  rksD : KwX.FnKw P w K mg base (L2.CX P w) 6 fI ksD (spRini C CR)
  rksE : KwX.FnKw P w K mg base (L2.CX P w) 6 fI ksE (spRini C CR)
  rksF : KwX.FnKw P w K mg base (L2.CX P w) 6 fI ksF (spRini C CR)
theorem scRef : FnScope ["_law_way", "e"] ["_law_way"] (defScope sRef) := ⟨rfl, rfl, rfl, by decide +kernel, rfl, by decide +kernel, by decide +kernel⟩
set_option maxHeartbeats 0 in
theorem ok_ref {f fI : Addr} {fd : FuncData} (F : Fun K "_law_refused" "_law_refused" sRef f fd) (RN : ErrOk P w K mg base "BadName" C.N "name" okTxt) (RB : ErrOk P w K mg base "BadNumber" C.B "value" okInt) (RM : ErrOk P w K mg base "TooMany" C.M "count" okInt)
    (MK : MkRack P w K mg base C CR fI) (U : Apart K C) : FnOk P w K mg base CX0 8 f fd ["_law_way"] spRefu := by
  refine F.ok scRef (fun vs H Q E h => ?_) (fun cdv A outer s H vs Q E hr h => ?_)
  · obtain ⟨way, rfl, _⟩ := h
    rfl
  · obtain ⟨way, rfl, k⟩ := h
    refine ⟨_, (pss_cons (TryAs.ps_try_asM (l := [((Value.ref C.M : Value), 1, (fun a cls d => tRet (tTup (tCons (tC (.str "TooMany")) (tCons (tXf a cls d C.M "count" (tVar 1)) tNil))) : TryAs.Su)), ((Value.ref C.N : Value), 1, (fun a cls d => tRet (tTup (tCons (tC (.str "BadName")) (tCons (tXf a cls d C.N "name" (tVar 1)) tNil))) : TryAs.Su)), ((Value.ref C.B : Value), 1, (fun a cls d => tRet (tTup (tCons (tC (.str "BadNumber")) (tCons (tXf a cls d C.B "value" (tVar 1)) tNil))) : TryAs.Su))]) (tb := fun W => tIfS (tTest (tOp rEq (tVar 0) (tC (.int 0)))) (tDrop (KwX.tMakeW CR ksA (spRini C CR) (WE W) (tCons (tC (.int 1)) (tCons (tUn (rU fun i => V.int (-i)) (tC (.int 1))) tNil)))) (tIfS (tTest (tOp rEq (tVar 0) (tC (.int 1)))) (tDrop (KwX.tMakeW CR ksB (spRini C CR) (WE W) (tCons (tUn (rU fun i => V.int (-i)) (tC (.int 1))) (tCons (tC (.int 1)) (tCons (tC (.int 1)) (tCons (tC (.int 1)) (tCons (tC (.int 1)) (tCons (tC (.int 1)) (tCons (tC (.int 1)) (tCons (tC (.int 1)) (tCons (tC (.int 1)) tNil))))))))))) (tDrop (KwX.tMakeW CR ksC (spRini C CR) (WE W) (tCons (tC (.int 1)) (tCons (tC (.int 1)) (tCons (tC (.int 1)) (tCons (tC (.int 1)) (tCons (tC (.int 1)) (tCons (tC (.int 1)) (tCons (tC (.int 1)) (tCons (tC (.int 1)) (tCons (tC (.int 1)) (tCons (tC (.int 1)) tNil)))))))))))))) (Wout := fun _ _ _ _ => False) rfl rfl scRef.nd takes0
        (fun W pn xe tk _ => (pss_one (ps_if (pt_cmpR op_eq (pv 0) pe_int (nomark _)) (pss_one (ps_expr (by exact (KwX.pe_makeW (E := WE W) MK.M MK.rksA hr rfl MK.g (fun σ => passAt tk σ) (pk_cons pe_int (pk_cons (pe_un un_neg pe_int) pk_nil)))))) (pss_one (ps_if (pt_cmpR op_eq (pv 0) pe_int (nomark _)) (pss_one (ps_expr (by exact (KwX.pe_makeW (E := WE W) MK.M MK.rksB hr rfl MK.g (fun σ => passAt tk σ) (pk_cons (pe_un un_neg pe_int) (pk_cons pe_int (pk_cons pe_int (pk_cons pe_int (pk_cons pe_int (pk_cons pe_int (pk_cons pe_int (pk_cons pe_int (pk_cons pe_int pk_nil))))))))))))) (pss_one (ps_expr (by exact (KwX.pe_makeW (E := WE W) MK.M MK.rksC hr rfl MK.g (fun σ => passAt tk σ) (pk_cons pe_int (pk_cons pe_int (pk_cons pe_int (pk_cons pe_int (pk_cons pe_int (pk_cons pe_int (pk_cons pe_int (pk_cons pe_int (pk_cons pe_int (pk_cons pe_int pk_nil)))))))))))))))))))
        (.cons (i := 1) rfl rfl ⟨rfl, by decide, Or.inl RM.g⟩ (fun a oe cls d pn hz hf => pss_one (ps_ret (pe_tup (pa_cons pe_str (by exact (pa_cons (pe_xf RM.xf RM.no hz hf (pv 1)) pa_nil)))))) (.cons (i := 1) rfl rfl ⟨rfl, by decide, Or.inl RN.g⟩ (fun a oe cls d pn hz hf => pss_one (ps_ret (pe_tup (pa_cons pe_str (by exact (pa_cons (pe_xf RN.xf RN.no hz hf (pv 1)) pa_nil)))))) (.cons (i := 1) rfl rfl ⟨rfl, by decide, Or.inl RB.g⟩ (fun a oe cls d pn hz hf => pss_one (ps_ret (pe_tup (pa_cons pe_str (by exact (pa_cons (pe_xf RB.xf RB.no hz hf (pv 1)) pa_nil)))))) .nil)))) (pss_one (ps_ret (pe_tup (pa_cons pe_str (pa_cons pe_int pa_nil)))))), ?_⟩
    have go : ∀ {d' t : Addr} {H' : Hp} {o o' : HO}, H' d' = none → (upd H' d' o) t = none → Same H' (upd (upd H' d' o) t o') := fun h1 h2 => same_tr (same_new h1) (same_new h2)
    refine ⟨_, rfl, rfl, _, rfl, ?_⟩
    by_cases c0 : way = 0
    · subst c0
      refine if_t (by simp) ⟨_, rfl, mk_rack2 [("oak", 1), ("Ash", -1)] rfl rfl (by decide) (by decide +kernel) (by decide) (fun c => absurd c (by decide)) (fun _ acc y L e => ?_) (fun _ e => absurd e (by decide +kernel))⟩
      rw [show firstBad [] [(("oak" : Str), (1 : Int)), ("Ash", -1)] = some ([(("oak" : Str), (1 : Int))], ("Ash" : Str), (-1 : Int)) from by decide +kernel] at e
      cases e
      have eD : due [(("oak" : Str), (1 : Int))] "Ash" (-1) = .name := by decide +kernel
      refine ⟨fun _ H' d' S hd => ⟨false, U.nm, fun z => Bool.noConfusion z, fun _ => ⟨true, RN.te, fun _ q ha => ?_, fun z => Bool.noConfusion z⟩⟩, fun z => (by rw [eD] at z; cases z), fun z => (by rw [eD] at z; cases z), fun z => (by rw [eD] at z; cases z)⟩
      refine ⟨_, rfl, rfl, rfl, d', _, _, rfl, upd_same, rfl, by show 2 ≤ sizeLine; decide, fun t ht => ?_⟩
      exact k t _ (same_tr S (go hd ht)) (by rw [upd_same]; rfl)
    refine if_f (by simp [c0]) ⟨_, rfl, rfl, _, rfl, ?_⟩
    by_cases c1 : way = 1
    · subst c1
      refine if_t (by simp) ⟨_, rfl, mk_rack2 [("oak", -1), ("ash", 1), ("fir", 1), ("elm", 1), ("yew", 1), ("ivy", 1), ("alder", 1), ("rowan", 1), ("lime", 1)] rfl rfl (by decide) (by decide +kernel) (by decide) (fun c H' d' S hd => ⟨true, RM.te, fun _ q ha => ?_, fun z => Bool.noConfusion z⟩)
        (fun c => absurd c (by decide)) (fun c => absurd c (by decide))⟩
      refine ⟨_, rfl, rfl, rfl, d', _, _, rfl, upd_same, rfl, by show 2 ≤ sizeLine; decide, fun t ht => ?_⟩
      exact k t _ (same_tr S (go hd ht)) (by rw [upd_same]; rfl)
    refine if_f (by simp [c1]) (mk_rack2 [("Oak", 1), ("ash", 1), ("fir", 1), ("elm", 1), ("yew", 1), ("ivy", 1), ("alder", 1), ("rowan", 1), ("lime", 1), ("holly", 1)] rfl rfl (by decide) (by decide +kernel) (by decide) (fun c H' d' S hd => ⟨true, RM.te, fun _ q ha => ?_, fun z => Bool.noConfusion z⟩)
        (fun c => absurd c (by decide)) (fun c => absurd c (by decide)))
    refine ⟨_, rfl, rfl, rfl, d', _, _, rfl, upd_same, rfl, by show 2 ≤ sizeLine; decide, fun t ht => ?_⟩
    exact k t _ (same_tr S (go hd ht)) (by rw [upd_same]; unfold refV; rw [if_neg c0, if_neg c1]; rfl)
theorem scKey : FnScope ["_law_value", "_law_rest", "e"] ["_law_value", "_law_rest"] (defScope sKey) := ⟨rfl, rfl, rfl, by decide +kernel, rfl, by decide +kernel, by decide +kernel⟩
set_option maxHeartbeats 0 in
theorem ok_key {f fI : Addr} {fd : FuncData} (F : Fun K "_law_keywords" "_law_keywords" sKey f fd) (RB : ErrOk P w K mg base "BadNumber" C.B "value" okInt) (RM : ErrOk P w K mg base "TooMany" C.M "count" okInt)
    (MK : MkRack P w K mg base C CR fI) (U : Apart K C) : FnOk P w K mg base CX0 8 f fd ["_law_value", "_law_rest"] spKey := by
  refine F.ok scKey (fun vs H Q E h => ?_) (fun cdv A outer s H vs Q E hr h => ?_)
  · obtain ⟨v, r, rfl, _⟩ := h
    rfl
  · obtain ⟨v, r, rfl, v0, v8, hvr, k⟩ := h
    refine ⟨_, (pss_cons (TryAs.ps_try_asM (l := [((Value.ref C.M : Value), 2, (fun a cls d => tRet (tTup (tCons (tC (.str "TooMany")) (tCons (tXf a cls d C.M "count" (tVar 2)) tNil))) : TryAs.Su)), ((Value.ref C.B : Value), 2, (fun a cls d => tRet (tTup (tCons (tC (.str "BadNumber")) (tCons (tXf a cls d C.B "value" (tVar 2)) tNil))) : TryAs.Su))]) (tb := fun W => tSeq (tDrop (KwX.tMakeW CR ksD (spRini C CR) (WE W) (tCons (tVar 0) (tCons (tVar 0) (tCons (tC (.int 1)) (tCons (tC (.int 1)) (tCons (tC (.int 1)) (tCons (tC (.int 1)) (tCons (tC (.int 1)) (tCons (tVar 1) tNil)))))))))) (tDrop (KwX.tMakeW CR ksE (spRini C CR) (WE W) (tCons (tVar 0) (tCons (tVar 0) (tCons (tC (.int 1)) (tCons (tC (.int 1)) (tCons (tC (.int 1)) (tCons (tC (.int 1)) (tCons (tC (.int 1)) (tCons (tVar 1) (tCons (tC (.int 3)) tNil)))))))))))) (Wout := fun _ _ _ _ => False) rfl rfl scKey.nd takes0
        (fun W pn xe tk _ => (pss_cons (ps_expr (by exact (KwX.pe_makeW (E := WE W) MK.M MK.rksD hr rfl MK.g (fun σ => passAt tk σ) (pk_cons (pv 0) (pk_cons (pv 0) (pk_cons pe_int (pk_cons pe_int (pk_cons pe_int (pk_cons pe_int (pk_cons pe_int (pk_cons (pv 1) pk_nil)))))))))))
      (pss_one (ps_expr (by exact (KwX.pe_makeW (E := WE W) MK.M MK.rksE hr rfl MK.g (fun σ => passAt tk σ) (pk_cons (pv 0) (pk_cons (pv 0) (pk_cons pe_int (pk_cons pe_int (pk_cons pe_int (pk_cons pe_int (pk_cons pe_int (pk_cons (pv 1) (pk_cons pe_int pk_nil)))))))))))))))
        (.cons (i := 2) rfl rfl ⟨rfl, by decide, Or.inl RM.g⟩ (fun a oe cls d pn hz hf => pss_one (ps_ret (pe_tup (pa_cons pe_str (by exact (pa_cons (pe_xf RM.xf RM.no hz hf (pv 2)) pa_nil)))))) (.cons (i := 2) rfl rfl ⟨rfl, by decide, Or.inl RB.g⟩ (fun a oe cls d pn hz hf => pss_one (ps_ret (pe_tup (pa_cons pe_str (by exact (pa_cons (pe_xf RB.xf RB.no hz hf (pv 2)) pa_nil)))))) .nil))) (pss_one (ps_ret (pe_tup (pa_cons pe_str (pa_cons pe_int pa_nil)))))), ?_⟩
    have go : ∀ {d' t : Addr} {H' : Hp} {o o' : HO}, H' d' = none → (upd H' d' o) t = none → Same H' (upd (upd H' d' o) t o') := fun h1 h2 => same_tr (same_new h1) (same_new h2)
    have seven : ∀ rest, firstBad [] ((("ash" : Str), v) :: ("fir", v) :: ("oak", 1) :: ("elm", 1) :: ("yew", 1) :: ("ivy", 1) :: ("alder", 1) :: rest) = firstBad [(("ash" : Str), v), ("fir", v), ("oak", 1), ("elm", 1), ("yew", 1), ("ivy", 1), ("alder", 1)] rest := fun rest => by
      rw [fb_put (by decide +kernel) rfl v0 (by first | decide | simp), fb_put (by decide +kernel) rfl v0 (by first | decide | simp), fb_put (by decide +kernel) rfl (by first | decide | simp) (by first | decide | simp), fb_put (by decide +kernel) rfl (by first | decide | simp) (by first | decide | simp), fb_put (by decide +kernel) rfl (by first | decide | simp) (by first | decide | simp),
        fb_put (by decide +kernel) rfl (by first | decide | simp) (by first | decide | simp), fb_put (by decide +kernel) rfl (by first | decide | simp) (by first | decide | simp)]
      rfl
    have small : ∀ (p : Row) (l : List Row), p ∈ ((("ash" : Str), v) :: ("fir", v) :: ("oak", 1) :: ("elm", 1) :: ("yew", 1) :: ("ivy", 1) :: ("alder", 1) :: ("rowan", r) :: l) → (∀ q ∈ l, q.2.natAbs ≤ 100) → p.2.natAbs ≤ 100 := fun p l hp hl => by
      simp only [List.mem_cons] at hp
      rcases hp with rfl | rfl | rfl | rfl | rfl | rfl | rfl | rfl | hp
      all_goals first | exact hl _ hp | (simp only; omega)
    refine ⟨_, rfl, _, rfl, _, rfl, mk_rack2 [("ash", v), ("fir", v), ("oak", 1), ("elm", 1), ("yew", 1), ("ivy", 1), ("alder", 1), ("rowan", r)] rfl rfl (by first | decide | simp) (show ∀ y ∈ ksD, Fit y from by decide +kernel) (fun p hp => small p [] hp fun _ h => nomatch h) (fun c => absurd c (by first | decide | simp)) (fun _ acc y L e => ?_) (fun _ e x d H1 _ _ _ S1 R1 => ?_)⟩
    · rw [seven] at e
      by_cases c : r < 0
      · have eD : due [(("ash" : Str), v), ("fir", v), ("oak", 1), ("elm", 1), ("yew", 1), ("ivy", 1), ("alder", 1)] "rowan" r = .number := by
          unfold due
          rw [if_neg (by decide +kernel), if_neg (by show ¬ (known _ _ = true); rw [show known [(("ash" : Str), v), ("fir", v), ("oak", 1), ("elm", 1), ("yew", 1), ("ivy", 1), ("alder", 1)] "rowan" = false from rfl]; decide), if_pos c]
        rw [fb_bad (by rw [eD]; decide)] at e
        cases e
        refine ⟨fun z => (by rw [eD] at z; cases z), fun z => (by rw [eD] at z; cases z), fun _ H' d' S hd => ⟨false, U.bm, fun z => Bool.noConfusion z, fun _ => ⟨true, RB.te, fun _ q ha => ?_, fun z => Bool.noConfusion z⟩⟩, fun z => (by rw [eD] at z; cases z)⟩
        refine ⟨_, rfl, rfl, rfl, d', _, _, rfl, upd_same, rfl, by show 2 ≤ sizeLine; decide, fun t ht => ?_⟩
        exact k t _ (same_tr S (go hd ht)) (by rw [upd_same, if_pos c])
      · rw [fb_put (by decide +kernel) rfl (by omega) (by first | decide | simp)] at e
        cases e
    · rw [seven] at e
      by_cases c : r < 0
      · have eD : due [(("ash" : Str), v), ("fir", v), ("oak", 1), ("elm", 1), ("yew", 1), ("ivy", 1), ("alder", 1)] "rowan" r = .number := by
          unfold due
          rw [if_neg (by decide +kernel), if_neg (by show ¬ (known _ _ = true); rw [show known [(("ash" : Str), v), ("fir", v), ("oak", 1), ("elm", 1), ("yew", 1), ("ivy", 1), ("alder", 1)] "rowan" = false from rfl]; decide), if_pos c]
        rw [fb_bad (by rw [eD]; decide)] at e
        cases e
      · refine ⟨_, rfl, _, rfl, _, rfl, mk_rack2 [("ash", v), ("fir", v), ("oak", 1), ("elm", 1), ("yew", 1), ("ivy", 1), ("alder", 1), ("rowan", r), ("lime", 3)] rfl rfl (by first | decide | simp) (show ∀ y ∈ ksE, Fit y from by decide +kernel) (fun p hp => small p [("lime", 3)] hp fun q hq => (by rw [List.mem_singleton] at hq; subst hq; decide)) (fun _ H' d' S hd => ⟨true, RM.te, fun _ q ha => ?_, fun z => Bool.noConfusion z⟩) (fun c => absurd c (by first | decide | simp)) (fun c => absurd c (by first | decide | simp))⟩
        refine ⟨_, rfl, rfl, rfl, d', _, _, rfl, upd_same, rfl, by show 2 ≤ sizeLine; decide, fun t ht => ?_⟩
        exact k t _ (same_tr S1 (same_tr S (go hd ht))) (by rw [upd_same, if_neg c]; rfl)
end
end Law

namespace Law
open PySem PySem.Spec PyProof.Rows L2
theorem passS {X : Cx} {CX : CXT} {E : XK} (h : Passes CX X E) : ∀ σ, PassesAt CX X σ E := fun σ pins H s e s' I c => h pins σ H s e s' I c
end Law

namespace Law
open PySem PySem.Spec PyProof.Rows L2 Sup
def spSame (CR : Addr) : Sp := fun vs H Q _ => ∃ (r d rl : Addr) (rows : List Row) (y : Str), vs = [.ref r, .ref rl, .str y] ∧ Rck CR H r d rows ∧ RowsAt H rl rows ∧ rows.length ≤ 8 ∧ (∀ p ∈ rows, Fit p.1) ∧ (rows.map (·.1)).Nodup ∧ Fit y ∧ ∀ H', Same H H' → Q (.bl true) H'
structure STxt (mg : Str → Option Value) (fUk : Addr) : Prop where
  unk : mg "_law_unknown" = some (.ref fUk)
  b_isinstance : mg "isinstance" = none
  b_list : mg "list" = none
  b_len : mg "len" = none
theorem look_nodup {rows : List Row} (hn : (rows.map (·.1)).Nodup) {i : Nat} {y : Str} {L : Int} (h : rows[i]? = some (y, L)) : rows.lookup y = some L := by
  induction rows generalizing i with
  | nil => cases h
  | cons p r ih =>
    obtain ⟨x, M⟩ := p
    rw [List.map_cons, List.nodup_cons] at hn
    cases i with
    | zero =>
      cases h
      simp [List.lookup]
    | succ i =>
      rw [List.getElem?_cons_succ] at h
      have hy : y ∈ r.map (·.1) := List.mem_map.mpr ⟨_, List.mem_of_getElem? h, rfl⟩
      have ne : (y == x) = false := by
        refine beq_eq_false_iff_ne.mpr fun z => ?_
        subst z
        exact hn.1 hy
      rw [List.lookup, ne]
      exact ih hn.2 h
section
variable {P : Program} {w : World} {K : PySem.W.Frag} {mg : Str → Option Value} {base : Heap} {C : Errs} {CR BE : Addr}
theorem scSam : FnScope ["_law_rack", "_law_rows", "_law_name_here", "_law_names", "_law_known", "_law_length", "_law_row"] ["_law_rack", "_law_rows", "_law_name_here"] (defScope sSam) := ⟨rfl, rfl, rfl, by decide +kernel, rfl, by decide +kernel, by decide +kernel⟩
set_option maxHeartbeats 0 in
theorem ok_sam {f fN fL fLn fC fUk : Addr} {fd fdN fdUk : FuncData} (F : Fun K "_law_same" "_law_same" sSam f fd) (GN : FnOk P w K mg base CX0 1 fN fdN ["self"] (spNms CR)) (bN : Binds K fdN ["self"] []) (MN : Meth K CR "names" fN) (GL : FnR P w K mg base (L2.CX P w) 4 fL (spLof C CR)) (ML : Meth K CR "length_of" fL)
    (GLn : FnR P w K mg base CX0 1 fLn (spLen CR)) (hsL : PySem.W.findIn K (.ref CR) "__len__" = some (some (.ref fLn))) (hfL : PySem.W.isFn K (.ref fLn) = true) (GCo : FnR P w K mg base CX0 1 fC (spCon CR)) (hsC : PySem.W.findIn K (.ref CR) "__contains__" = some (some (.ref fC))) (hfC : PySem.W.isFn K (.ref fC) = true)
    (GUk : FnOk P w K mg base CX0 5 fUk fdUk ["_law_rack", "_law_name_here"] (spUnk CR)) (FUk : Fun K "_law_unknown" "_law_unknown" sUnk fUk fdUk) (bUk : Binds K fdUk ["_law_rack", "_law_name_here"] []) (cl : Cls K CR) (T : STxt mg fUk) : FnOk P w K mg base CX0 6 f fd ["_law_rack", "_law_rows", "_law_name_here"] (spSame CR) := by
  refine F.ok scSam (fun vs H Q E h => ?_) (fun cdv A outer s H vs Q E hr h => ?_)
  · obtain ⟨r, d, rl, rows, y, rfl, _⟩ := h
    rfl
  · obtain ⟨r, d, rl, rows, y, rfl, hR, R, h8, hF, hnd, fy, k⟩ := h
    have hr1 : Room 1 _ := hr.mono (by decide)
    have hr2 : Room 2 _ := hr.mono (by decide)
    have hr4 : Room 4 _ := hr.mono (by decide)
    refine ⟨_, (pss_cons (ps_set (i := 3) scSam.nd rfl (Or.inl rfl) (pe_meth0 (pv 0) cl MN GN hr1 bN .nil pass0))
      (pss_cons (ps_if (PW.pt (pw_or (pt_not (pt_val (pe_callB call_isi (by rfl) T.b_isinstance (by decide +kernel) (pa_cons (pv 3) (pa_cons (pe_bltn (v := .ty "list") (by rfl) T.b_list (by decide +kernel) rfl) pa_nil))))) (pw_or1 (pt_cmpR (op_neD hr.units) (pv 3) (pe_lc (own := [("_law_row", 6)]) (g := gName 6) (tt := tYes) (by rfl) scSam.nd (pi_list (pv 1)) (blkOk_by (own := [("_law_row", 6)]) (N := ["_law_rack", "_law_rows", "_law_name_here", "_law_names", "_law_known", "_law_length", "_law_row"]) (sc := defScope sSam) (by decide +kernel)) (fun _ _ _ _ _ => pg_name (i := 6) scSam.nd rfl (Or.inl rfl)) (fun _ _ _ _ _ => pts_nil) (fun _ _ _ _ _ => (pe_ix (r := rIxT K) ix_tup (pv 6) pe_int (fun _ _ => rfl)))) (nomark _))))) (pss_one (ps_ret pe_bl)) pss_nil)
      (pss_cons (ps_expr (pe_bm PySem.F.plainAttrs_list PySem.F.slot_list_append PySem.F.type_list_append mt_append (pv 3) (pa_cons pe_str pa_nil)))
      (pss_cons (ps_if (PW.pt (pw_or (pt_cmpR (op_neD hr.units) (pe_meth0 (pv 0) cl MN GN hr1 bN .nil pass0) (pe_lc (own := [("_law_row", 6)]) (g := gName 6) (tt := tYes) (by rfl) scSam.nd (pi_list (pv 1)) (blkOk_by (own := [("_law_row", 6)]) (N := ["_law_rack", "_law_rows", "_law_name_here", "_law_names", "_law_known", "_law_length", "_law_row"]) (sc := defScope sSam) (by decide +kernel)) (fun _ _ _ _ _ => pg_name (i := 6) scSam.nd rfl (Or.inl rfl)) (fun _ _ _ _ _ => pts_nil) (fun _ _ _ _ _ => (pe_ix (r := rIxT K) ix_tup (pv 6) pe_int (fun _ _ => rfl)))) (nomark _)) (pw_or1 (pt_cmpR op_ne (pe_callB (Own.call_lenO GLn hsL hfL hr2 pass0) (by rfl) T.b_len PySem.boot_len (pa_cons (pv 0) pa_nil)) (pe_callB call_len_seq (by rfl) T.b_len PySem.boot_len (pa_cons (pv 1) pa_nil)) (nomark _))))) (pss_one (ps_ret pe_bl)) pss_nil)
      (pss_cons (ps_for PassesOwn.never rfl (pi_list (pv 1)) (pg_tup (by rfl) (pgs_cons (pg_name (i := 4) scSam.nd rfl (Or.inl rfl)) (pgs_cons (pg_name (i := 5) scSam.nd rfl (Or.inl rfl)) pgs_nil))) (pss_one (ps_if (PW.pt (pw_or (pt_cmpR op_ne (Own.pe_methW (E := fun _ => E0) (pv 0) cl ML GL hr4 (passS passL) (pa_cons (pv 4) pa_nil)) (pv 5) (nomark _)) (pw_or1 (pt_cmpR op_notBl (pe_cmpR (Own.op_inO GCo hsC hfC hr1 pass0) (pv 4) (pv 0) rfl) pe_bl (nomark _))))) (pss_one (ps_ret pe_bl)) pss_nil)))
      (pss_cons (ps_if (pt_cmpR (op_notInD (Room.u65 hr)) (pv 2) (pe_lc (own := [("_law_row", 6)]) (g := gName 6) (tt := tYes) (by rfl) scSam.nd (pi_list (pv 1)) (blkOk_by (own := [("_law_row", 6)]) (N := ["_law_rack", "_law_rows", "_law_name_here", "_law_names", "_law_known", "_law_length", "_law_row"]) (sc := defScope sSam) (by decide +kernel)) (fun _ _ _ _ _ => pg_name (i := 6) scSam.nd rfl (Or.inl rfl)) (fun _ _ _ _ _ => pts_nil) (fun _ _ _ _ _ => (pe_ix (r := rIxT K) ix_tup (pv 6) pe_int (fun _ _ => rfl)))) rfl) (pss_one (ps_ret (pe_and (pe_cmpR op_isBl (pe_cmpR (Own.op_inO GCo hsC hfC hr1 pass0) (pv 2) (pv 0) rfl) pe_bl (nomark _)) (pe_one (pe_call GUk hr rfl T.unk FUk.kp bUk .nil pass0 (pa_cons (pv 0) (pa_cons (pv 2) pa_nil))))))) pss_nil)
      (pss_one (ps_ret pe_bl)))))))), ?_⟩
    have inst : ∀ {H'}, Same H H' → ∃ dx fs, H' r = some (.ins CR dx fs) ∧ ∀ m : Str, m ≠ "_lengths" → fs.lookup m = none := fun {H'} S => by
      obtain ⟨⟨dx, fs, w1, w2, w3⟩, w4⟩ := hR.same S
      exact ⟨dx, fs, w1, w3⟩
    have fst : rows.map (fun x => V.str x.1) = (rows.map (·.1)).map V.str := by rw [List.map_map]; rfl
    have shp : SeqAt.shaped (.list ((rows.map (·.1)).map PyData.str)) = true := shaped_strs fun n hn => by
      obtain ⟨p, hp, rfl⟩ := List.mem_map.mp hn
      exact (hF p hp).2
    -- names
    obtain ⟨dx, fs, w1, w3⟩ := inst same_rfl
    refine ⟨_, rfl, r, dx, fs, rfl, w1, w3 _ (by decide), r, d, rows, rfl, hR, fun p hp => ?_⟩
    rw [fst]
    have S1 := same_new (o := .lst ((rows.map (·.1)).map V.str)) hp
    have e1 : upd H p (.lst ((rows.map (·.1)).map V.str)) p = some (.lst ((rows.map (·.1)).map V.str)) := upd_same
    generalize upd H p (.lst ((rows.map (·.1)).map V.str)) = H1 at S1 e1
    refine ⟨_, rfl, V.ref p, .ty "list", .type "list", .type "list", true, rfl, .ty _, .base (.lst e1), by rfl, true, rfl, if_f rfl ?_⟩
    refine ⟨_, rfl, r_names rfl (by decide) (by show 6 < 7; decide) (R.same S1) (by omega) fun D H2 hD g2 s2 => ?_⟩
    have e2 := s2 _ _ e1
    refine ⟨.list ((rows.map (·.1)).map PyData.str), .list ((rows.map (·.1)).map PyData.str), .lst (SqL.of e2) (dp_strs _), .lst (SqL.of g2) (dp_strs _), shp, shp, _, rfl, if_f (by rw [eqv_rfl shp]; rfl) ?_⟩
    refine ⟨_, rfl, .inl ⟨rfl, _, SqL.of e2⟩, p, _, _, rfl, rfl, e2, small1000 (by simp; omega), ?_⟩
    have S2 : Same H (upd H2 p (.lst ((rows.map (·.1)).map V.str ++ [V.str "zzz"]))) := fun c o e => by
      rw [upd_ne (ne_of_none e hp)]
      exact s2 _ _ (S1 _ _ e)
    generalize upd H2 p (.lst ((rows.map (·.1)).map V.str ++ [V.str "zzz"])) = H3 at S2
    clear e1 e2 g2 s2 S1 hD hp
    -- names again, and len
    obtain ⟨dx3, fs3, w13, w33⟩ := inst S2
    refine ⟨_, rfl, r, dx3, fs3, rfl, w13, w33 _ (by decide), r, d, rows, rfl, hR.same S2, fun p2 hp2 => ?_⟩
    rw [fst]
    have S3 : Same H (upd H3 p2 (.lst ((rows.map (·.1)).map V.str))) := same_tr S2 (same_new hp2)
    have e1 : upd H3 p2 (.lst ((rows.map (·.1)).map V.str)) p2 = some (.lst ((rows.map (·.1)).map V.str)) := upd_same
    generalize upd H3 p2 (.lst ((rows.map (·.1)).map V.str)) = H4 at S3 e1
    refine r_names rfl (by decide) (by show 6 < 7; decide) (R.same S3) (by omega) fun D2 H5 hD2 g2 s2 => ?_
    have S4 := same_tr S3 s2
    refine ⟨.list ((rows.map (·.1)).map PyData.str), .list ((rows.map (·.1)).map PyData.str), .lst (SqL.of (s2 _ _ e1)) (dp_strs _), .lst (SqL.of g2) (dp_strs _), shp, shp, _, rfl, if_f (by rw [eqv_rfl shp]; rfl) ?_⟩
    obtain ⟨dx5, fs5, w15, w35⟩ := inst S4
    obtain ⟨xs5, hxs5, hlen5⟩ := (R.same S4).len
    refine ⟨_, rfl, r, dx5, fs5, rfl, w15, r, d, rows, rfl, hR.same S4, rows.length, rfl, by omega, _, rfl, rl, xs5, rfl, .inl (SqL.of hxs5), ?_⟩
    refine ⟨rfl, _, rfl, if_f (by rw [hlen5]; simp) ?_⟩
    generalize H5 = H6 at S4
    clear e1 g2 s2 hxs5 hlen5 w15 w13 hp2 hD2 S3 S2
    obtain ⟨ts, hl, hts, hrow⟩ := id R
    refine ⟨_, rfl, rl, rfl, ⟨_, SqL.of (S4 _ _ hl)⟩, for_it (walk_list (xs := ts.map V.ref)) (fun i σ' H' => ∃ v4 v5 : Option V, σ' = [some (.ref r), some (.ref rl), some (.str y), some (.ref p), v4, v5, none] ∧ Same H H') ⟨_, _, rfl, S4⟩ (fun i σ' H' _ h => ?_) ?_ ?_⟩
    · obtain ⟨_, _, _, S⟩ := h
      exact SqL.of (S _ _ hl)
    · rintro i x σ' H7 H8 hi ⟨v4, v5, rfl, S⟩ ⟨rfl, hx⟩
      rw [List.length_map] at hi
      rw [List.getElem?_map, List.getElem?_eq_getElem hi] at hx
      cases hx
      obtain ⟨⟨n, l⟩, hn⟩ : ∃ p, rows[i]? = some p := ⟨_, List.getElem?_eq_getElem (by omega)⟩
      have ht := S _ _ (hrow i _ n l (List.getElem?_eq_getElem hi) hn)
      obtain ⟨dx7, fs7, w17, w37⟩ := inst S
      have hn' := look_nodup hnd hn
      have kn : known rows n = true := by rw [known_iff, hn']; rfl
      refine ⟨_, _, rfl, SqT.of ht, rfl, _, _, rfl, _, _, rfl, rfl, ?_⟩
      refine ⟨_, rfl, r, dx7, fs7, rfl, w17, w37 _ (by decide), _, rfl, r, d, rows, n, rfl, hR.same S, hF _ (List.mem_of_getElem? hn), fun e => (by rw [hn'] at e; cases e), fun L e => ⟨_, rfl, rfl, _, rfl, ?_⟩⟩
      rw [hn'] at e
      cases e
      refine if_f (by simp) ?_
      refine ⟨_, rfl, _, rfl, r, dx7, fs7, rfl, w17, r, d, rows, n, rfl, hR.same S, _, rfl, _, true, rfl, rfl, _, rfl, if_f (by rw [kn]; rfl) ⟨_, _, rfl, S⟩⟩
    rintro σ' H7 ⟨v4, v5, rfl, S⟩
    refine ⟨_, rfl, r_names rfl (by decide) (by show 6 < 7; decide) (R.same S) (by omega) fun D3 H8 hD3 g3 s3 => ?_⟩
    have S8 := same_tr S s3
    refine ⟨.str y, (rows.map (·.1)).map PyData.str, .str y, .lst (SqL.of g3) (dp_strs _), shaped_str fy.2, shp, _, rfl, ?_⟩
    rw [any_strs]
    by_cases kn : known rows y = true
    · exact if_f (by rw [show (rows.map (·.1)).contains y = true from kn]; rfl) (k _ S8)
    · have kf : known rows y = false := Bool.eq_false_iff.mpr kn
      refine if_t (by rw [show (rows.map (·.1)).contains y = false from kf]; rfl) ?_
      obtain ⟨dx7, fs7, w17, w37⟩ := inst S8
      refine ⟨_, rfl, _, rfl, r, dx7, fs7, rfl, w17, r, d, rows, y, rfl, hR.same S8, _, rfl, _, false, rfl, rfl, _, rfl, if_t (by rw [kf]; rfl) ?_⟩
      exact ⟨_, rfl, _, rfl, r, d, rows, y, rfl, hR.same S8, fy, kf, fun H' S' => k _ (same_tr S8 S')⟩
end
end Law

namespace Law
open PySem PySem.Spec PyProof.Rows L2 Sup
structure Wld (CR : Addr) (H : Hp) (b l r d rl : Addr) (rows : List Row) : Prop where
  B : Box H b l
  R : Rck CR H r d rows
  A : RowsAt H rl rows
  n8 : rows.length ≤ 8
  fit : ∀ p ∈ rows, Fit p.1
  nd : (rows.map (·.1)).Nodup
  nl : rl ≠ l
section
variable {CR : Addr} {H H' : Hp} {b l r d rl : Addr} {rows : List Row}
theorem Rck.sameB (h : Rck CR H r d rows) (B : Box H b l) (s : SameB b H H') : Rck CR H' r d rows := by
  obtain ⟨⟨dx, fs, h1, h2⟩, h3⟩ := h
  exact ⟨⟨dx, fs, s _ _ (B.neI h1).1 h1, h2⟩, s _ _ (B.neD h3).1 h3⟩
theorem Wld.draw (W : Wld CR H b l r d rl rows) (B' : Box H' b l) (s : SameB b H H') : Wld CR H' b l r d rl rows := ⟨B', W.R.sameB W.B s, W.A.sameB W.B s, W.n8, W.fit, W.nd, W.nl⟩
theorem Wld.same (W : Wld CR H b l r d rl rows) (s : Same H H') : Wld CR H' b l r d rl rows := ⟨W.B.same s, W.R.same s, W.A.same s, W.n8, W.fit, W.nd, W.nl⟩
/-- after a put: the rack has the ladder, the law's rows do not yet -/
structure Mid (CR : Addr) (H : Hp) (b l r d rl : Addr) (rows rows' : List Row) : Prop where
  B : Box H b l
  R : Rck CR H r d rows'
  A : RowsAt H rl rows
theorem Wld.put {y : Str} {L : Int} (W : Wld CR H b l r d rl rows) (s : Same (upd H d (.dK (kvs (rows ++ [(y, L)])))) H') : Mid CR H' b l r d rl rows (rows ++ [(y, L)]) := by
  have nb := W.B.neD W.R.2
  have hd : ∀ c o, c ≠ d → H c = some o → H' c = some o := fun c o n e => s c o (by rw [upd_ne n]; exact e)
  refine ⟨?_, W.R.put.same s, ?_⟩
  · obtain ⟨ns, i, q, s', h1, h2, h3⟩ := W.B
    exact ⟨ns, i, q, s', hd _ _ (Ne.symm nb.1) h1, hd _ _ (Ne.symm nb.2) h2, h3⟩
  · obtain ⟨ts, h1, h2, h3⟩ := W.A
    have ne : ∀ {c : Addr} {xs : List V}, H c = some (.lst xs) ∨ H c = some (.tup xs) → c ≠ d := fun {c xs} h z => by
      have hd := W.R.2
      rw [z, hd] at h
      rcases h with h | h <;> cases h
    exact ⟨ts, hd _ _ (ne (.inl h1)) h1, h2, fun i t y' L' e1 e2 => hd _ _ (ne (.inr (h3 i t y' L' e1 e2))) (h3 i t y' L' e1 e2)⟩
theorem known_mem {y : Str} (h : known rows y = false) : y ∉ rows.map (·.1) := fun z => by
  have e : known rows y = true := List.contains_iff_mem.mpr z
  rw [e] at h
  cases h
theorem Mid.push {y : Str} {L : Int} {t : Addr} {xs : List V} (M : Mid CR H b l r d rl rows (rows ++ [(y, L)])) (fit : ∀ p ∈ rows, Fit p.1) (nd : (rows.map (·.1)).Nodup) (nl : rl ≠ l) (hdue : due rows y L = .put) (fy : Fit y)
    (ht : H t = none) (hl : H rl = some (.lst xs)) : Wld CR (upd (upd H t (.tup [.str y, .int L])) rl (.lst (xs ++ [.ref t]))) b l r d rl (rows ++ [(y, L)]) := by
  have hk : badN y = false ∧ known rows y = false ∧ ¬ L < 0 ∧ rows.length < 8 := by
    unfold due at hdue
    split at hdue
    · cases hdue
    split at hdue
    · cases hdue
    split at hdue
    · cases hdue
    split at hdue
    · cases hdue
    rename_i h1 h2 h3 h4
    exact ⟨by simpa using h1, by simpa using h2, h3, by omega⟩
  have nt : rl ≠ t := ne_of_none hl ht
  have nb := M.A.neB M.B
  have fr := M.B.free ht
  refine ⟨?_, ?_, ?_, by rw [List.length_append]; simp; omega, fun p hp => ?_, ?_, nl⟩
  · refine (M.B.at fr).keep fun c hc => upd_ne ?_
    rcases hc with rfl | rfl
    · exact Ne.symm nb
    · exact Ne.symm nl
  · obtain ⟨⟨dx, fs, h1, h2⟩, h3⟩ := M.R
    have n1 : r ≠ rl := fun z => by rw [z, hl] at h1; cases h1
    have n2 : d ≠ rl := fun z => by rw [z, hl] at h3; cases h3
    exact ⟨⟨dx, fs, by rw [upd_ne n1, upd_ne (ne_of_none h1 ht)]; exact h1, h2⟩, by rw [upd_ne n2, upd_ne (ne_of_none h3 ht)]; exact h3⟩
  · obtain ⟨ts, h1, h2, h3⟩ := M.A
    rw [hl] at h1
    cases h1
    refine ⟨ts ++ [t], by rw [upd_same, List.map_append]; rfl, by simp [h2], fun i t' y' L' e1 e2 => ?_⟩
    by_cases hi : i < ts.length
    · rw [List.getElem?_append_left hi] at e1
      rw [List.getElem?_append_left (by omega)] at e2
      have z := h3 i t' y' L' e1 e2
      have n1 : t' ≠ rl := fun w => by rw [w, hl] at z; cases z
      rw [upd_ne n1, upd_ne (ne_of_none z ht)]
      exact z
    · rw [List.getElem?_append_right (by omega)] at e1 e2
      have ei : i - ts.length = 0 := by
        have := (List.getElem?_eq_some_iff.mp e1).1
        simp at this
        omega
      have ej : i - rows.length = 0 := by omega
      rw [ei] at e1
      rw [ej] at e2
      cases e1
      cases e2
      rw [upd_ne (Ne.symm nt), upd_same]
  · rcases List.mem_append.mp hp with hp | hp
    · exact fit p hp
    · rw [List.mem_singleton] at hp
      subst hp
      exact fy
  · rw [List.map_append]
    refine List.nodup_append.mpr ⟨nd, by simp, fun a ha c hc => ?_⟩
    rw [List.map_cons, List.map_nil, List.mem_singleton] at hc
    subst hc
    exact fun z => known_mem hk.2.1 (z ▸ ha)
end
def dueD (rows : List Row) (y : Str) (L : Int) : PyData := match due rows y L with
  | .name => .tuple [.str "BadName", .str y]
  | .taken => .tuple [.str "TakenName", .str y]
  | .number => .tuple [.str "BadNumber", .int L]
  | .many => .tuple [.str "TooMany", .int 9]
  | .put => .tuple [.str "put", .none]
theorem int_ok (n : Int) : PyData.canLay0 (.int n) = true := by simp only [PyData.canLay0]
theorem due_data (rows : List Row) {y : Str} (L : Int) (fy : Fit y) : ∃ D : PyData, (∀ (K : PySem.W.Frag) (H : Hp) (t : Addr), H t = some (.tup (dueV rows y L)) → Dp K H (.ref t) D) ∧ SeqAt.shaped D = true := by
  refine ⟨dueD rows y L, fun K H t h => ?_, ?_⟩
  · unfold dueV at h
    unfold dueD
    cases e : due rows y L <;> rw [e] at h
    · exact .tup (SqT.of h) (.cons (.str _) (.cons (.str _) .nil))
    · exact .tup (SqT.of h) (.cons (.str _) (.cons (.str _) .nil))
    · exact .tup (SqT.of h) (.cons (.str _) (.cons (.int _) .nil))
    · exact .tup (SqT.of h) (.cons (.str _) (.cons (.int _) .nil))
    · exact .tup (SqT.of h) (.cons (.str _) (.cons .non .nil))
  · unfold dueD
    cases due rows y L
    · exact shaped_pair (by decide +kernel) (ok_str fy.2) rfl rfl
    · exact shaped_pair (by decide +kernel) (ok_str fy.2) rfl rfl
    · exact shaped_pair (by decide +kernel) (int_ok _) rfl rfl
    · exact shaped_pair (by decide +kernel) (int_ok _) rfl rfl
    · exact shaped_pair (by decide +kernel) (by decide +kernel) rfl rfl
def dueW (rows : List Row) (y : Str) (L : Int) : Str := match due rows y L with
  | .name => "BadName"
  | .taken => "TakenName"
  | .number => "BadNumber"
  | .many => "TooMany"
  | .put => "put"
theorem due_at (rows : List Row) (y : Str) (L : Int) : atI (dueV rows y L) 0 = some (.str (dueW rows y L)) := by
  unfold dueV dueW
  cases due rows y L <;> rfl
theorem due_put (rows : List Row) (y : Str) (L : Int) : dueW rows y L = "put" ↔ due rows y L = .put := by
  unfold dueW
  cases due rows y L <;> simp <;> decide +kernel
def spLaw (K : PySem.W.Frag) : Sp := fun vs H Q _ => ∃ (a : Addr) (ns : List Int), vs = [.ref a] ∧ SqL K H a (ns.map V.int) ∧ ns.length ≤ 63 ∧ ∀ H', Q (.bl true) H'
structure MTxt (mg : Str → Option Value) (fB fT fNm fDu fPu fSa fRe fKe : Addr) : Prop where
  box : mg "_law_box" = some (.ref fB)
  take : mg "_law_take" = some (.ref fT)
  name : mg "_law_name" = some (.ref fNm)
  due : mg "_law_due" = some (.ref fDu)
  put : mg "_law_put" = some (.ref fPu)
  same : mg "_law_same" = some (.ref fSa)
  ref : mg "_law_refused" = some (.ref fRe)
  key : mg "_law_keywords" = some (.ref fKe)
  b_len : mg "len" = none
  b_range : mg "range" = none
section
variable {P : Program} {w : World} {K : PySem.W.Frag} {mg : Str → Option Value} {base : Heap} {C : Errs} {CR BE : Addr}
theorem scLaw : FnScope ["_law_script", "_law_box_here", "_law_rack", "_law_rows", "_law_first", "_law_second", "_law_k", "_law_name_here", "_law_length", "_law_due_here", "_law_value", "_law_way"] ["_law_script"] (defScope sLaw) := ⟨rfl, rfl, rfl, by decide +kernel, rfl, by decide +kernel, by decide +kernel⟩
set_option maxHeartbeats 0 in
theorem ok_law {f fB fT fNm fDu fPu fSa fRe fKe fI fLn : Addr} {fd fdB fdT fdNm fdDu fdPu fdSa fdRe fdKe : FuncData} (F : Fun K "law" "law" sLaw f fd) (T : MTxt mg fB fT fNm fDu fPu fSa fRe fKe)
    (GB : FnOk P w K mg base CX0 1 fB fdB ["_law_script"] (spBox K)) (FB : Fun K "_law_box" "_law_box" sBox fB fdB) (bB : Binds K fdB ["_law_script"] [])
    (GT : FnOk P w K mg base CX0 1 fT fdT ["_law_box_here", "_law_size"] spTake) (FT : Fun K "_law_take" "_law_take" sTake fT fdT) (bT : Binds K fdT ["_law_box_here", "_law_size"] [])
    (GNm : FnOk P w K mg base CX0 2 fNm fdNm ["_law_box_here", "_law_rows"] spNam) (FNm : Fun K "_law_name" "_law_name" sNam fNm fdNm) (bNm : Binds K fdNm ["_law_box_here", "_law_rows"] [])
    (GDu : FnOk P w K mg base CX0 2 fDu fdDu ["_law_rows", "_law_name_here", "_law_length"] spDue) (FDu : Fun K "_law_due" "_law_due" sDue fDu fdDu) (bDu : Binds K fdDu ["_law_rows", "_law_name_here", "_law_length"] [])
    (GPu : FnOk P w K mg base CX0 6 fPu fdPu ["_law_rack", "_law_name_here", "_law_length"] (spPutL CR)) (FPu : Fun K "_law_put" "_law_put" sPutL fPu fdPu) (bPu : Binds K fdPu ["_law_rack", "_law_name_here", "_law_length"] [])
    (GSa : FnOk P w K mg base CX0 6 fSa fdSa ["_law_rack", "_law_rows", "_law_name_here"] (spSame CR)) (FSa : Fun K "_law_same" "_law_same" sSam fSa fdSa) (bSa : Binds K fdSa ["_law_rack", "_law_rows", "_law_name_here"] [])
    (GRe : FnOk P w K mg base CX0 8 fRe fdRe ["_law_way"] spRefu) (FRe : Fun K "_law_refused" "_law_refused" sRef fRe fdRe) (bRe : Binds K fdRe ["_law_way"] [])
    (GKe : FnOk P w K mg base CX0 8 fKe fdKe ["_law_value", "_law_rest"] spKey) (FKe : Fun K "_law_keywords" "_law_keywords" sKey fKe fdKe) (bKe : Binds K fdKe ["_law_value", "_law_rest"] [])
    (GLn : FnR P w K mg base CX0 1 fLn (spLen CR)) (hsL : PySem.W.findIn K (.ref CR) "__len__" = some (some (.ref fLn))) (hfL : PySem.W.isFn K (.ref fLn) = true) (MK : MkRack P w K mg base C CR fI) : FnOk P w K mg base CX0 9 f fd ["_law_script"] (spLaw K) := by
  refine F.ok scLaw (fun vs H Q E h => ?_) (fun cdv A outer s H vs Q E hr h => ?_)
  · obtain ⟨a, ns, rfl, _⟩ := h
    rfl
  · obtain ⟨a, ns, rfl, hS, h63, k⟩ := h
    have hr1 : Room 1 _ := hr.mono (by decide)
    have hr2 : Room 2 _ := hr.mono (by decide)
    have hr6 : Room 6 _ := hr.mono (by decide)
    have hr7 : Room 7 _ := hr.mono (by decide)
    refine ⟨_, (pss_cons (ps_set (i := 1) scLaw.nd rfl (Or.inl rfl) (pe_call GB hr1 rfl T.box FB.kp bB .nil pass0 (pa_cons (pv 0) pa_nil)))
      (pss_cons (ps_set (i := 2) scLaw.nd rfl (Or.inl rfl) (KwX.pe_makeW0 (E := fun _ => E0) MK.M MK.r0 hr7 rfl MK.g (passS passL)))
      (pss_cons (ps_set (i := 3) scLaw.nd rfl (Or.inl rfl) (pe_lst pa_nil))
      (C8.pss_cut (ps_if (pt_cmpR op_eq (pe_call GT hr1 rfl T.take FT.kp bT .nil pass0 (pa_cons (pv 1) (pa_cons pe_int pa_nil))) pe_int (nomark _)) (pss_cons (ps_set (i := 4) scLaw.nd rfl (Or.inl rfl) (pe_call GT hr1 rfl T.take FT.kp bT .nil pass0 (pa_cons (pv 1) (pa_cons (pe_op op_pow pe_int pe_int) pa_nil))))
      (pss_cons (ps_set (i := 5) scLaw.nd rfl (Or.inl rfl) (pe_call GT hr1 rfl T.take FT.kp bT .nil pass0 (pa_cons (pv 1) (pa_cons (pe_op op_pow pe_int pe_int) pa_nil))))
      (pss_cons (ps_set (i := 2) scLaw.nd rfl (Or.inl rfl) (KwX.pe_makeW (E := fun _ => E0) MK.M MK.rksF hr7 rfl MK.g (passS passL) (pk_cons (pv 4) (pk_cons (pv 5) pk_nil))))
      (pss_one (ps_set (i := 3) scLaw.nd rfl (Or.inl rfl) (pe_lst (pa_cons (pe_tup (pa_cons pe_str (pa_cons (pv 4) pa_nil))) (pa_cons (pe_tup (pa_cons pe_str (pa_cons (pv 5) pa_nil))) pa_nil)))))))) pss_nil)
      (pss_cons (ps_if (pt_not (pt_val (pe_call GSa hr6 rfl T.same FSa.kp bSa .nil pass0 (pa_cons (pv 2) (pa_cons (pv 3) (pa_cons pe_str pa_nil)))))) (pss_one (ps_ret pe_bl)) pss_nil)
      (pss_cons (ps_for PassesOwn.never rfl (pi_range1 (by rfl) T.b_range (pa_cons (pe_call GT hr1 rfl T.take FT.kp bT .nil pass0 (pa_cons (pv 1) (pa_cons pe_int pa_nil))) pa_nil)) (pg_name (i := 6) scLaw.nd rfl (Or.inl rfl)) (pss_cons (ps_set (i := 7) scLaw.nd rfl (Or.inl rfl) (pe_call GNm hr2 rfl T.name FNm.kp bNm .nil pass0 (pa_cons (pv 1) (pa_cons (pv 3) pa_nil))))
      (pss_cons (ps_set (i := 8) scLaw.nd rfl (Or.inl rfl) (pe_call GT hr1 rfl T.take FT.kp bT .nil pass0 (pa_cons (pv 1) (pa_cons (pe_ix ix_list (pe_lst (pa_cons pe_int (pa_cons (pe_op op_pow pe_int pe_int) pa_nil))) (pe_call GT hr1 rfl T.take FT.kp bT .nil pass0 (pa_cons (pv 1) (pa_cons pe_int pa_nil))) (fun _ _ => rfl)) pa_nil))))
      (C8.pss_cut (ps_if (pt_cmpR op_eq (pe_call GT hr1 rfl T.take FT.kp bT .nil pass0 (pa_cons (pv 1) (pa_cons pe_int pa_nil))) pe_int (nomark _)) (pss_one (ps_set (i := 8) scLaw.nd rfl (Or.inl rfl) (pe_op op_sub (pe_un un_neg pe_int) (pv 8)))) pss_nil)
      (pss_cons (ps_set (i := 9) scLaw.nd rfl (Or.inl rfl) (pe_call GDu hr2 rfl T.due FDu.kp bDu .nil pass0 (pa_cons (pv 3) (pa_cons (pv 7) (pa_cons (pv 8) pa_nil)))))
      (C8.pss_cut (ps_if (pt_cmpR (op_neD hr.units) (pe_call GPu hr6 rfl T.put FPu.kp bPu .nil pass0 (pa_cons (pv 2) (pa_cons (pv 7) (pa_cons (pv 8) pa_nil)))) (pv 9) (nomark _)) (pss_one (ps_ret pe_bl)) pss_nil)
      (C8.pss_cut (ps_if (pt_cmpR op_eq (pe_ix ix_tup (pv 9) pe_int (fun _ _ => rfl)) pe_str (nomark _)) (pss_one (ps_expr (pe_bm PySem.F.plainAttrs_list PySem.F.slot_list_append PySem.F.type_list_append mt_append (pv 3) (pa_cons (pe_tup (pa_cons (pv 7) (pa_cons (pv 8) pa_nil))) pa_nil)))) pss_nil)
      (pss_one (ps_if (pt_not (pt_val (pe_call GSa hr6 rfl T.same FSa.kp bSa .nil pass0 (pa_cons (pv 2) (pa_cons (pv 3) (pa_cons (pv 7) pa_nil)))))) (pss_one (ps_ret pe_bl)) pss_nil)))))))))
      (pss_cons (ps_if (pt_cmpR (op_neD hr.units) (pe_lc (own := [("_law_way", 11)]) (g := gName 11) (tt := tYes) (by rfl) scLaw.nd (pi_range1 (by rfl) T.b_range (pa_cons pe_int pa_nil)) (blkOk_by (own := [("_law_way", 11)]) (N := ["_law_script", "_law_box_here", "_law_rack", "_law_rows", "_law_first", "_law_second", "_law_k", "_law_name_here", "_law_length", "_law_due_here", "_law_value", "_law_way"]) (sc := defScope sLaw) (by decide +kernel)) (fun _ _ _ _ _ => pg_name (i := 11) scLaw.nd rfl (Or.inl rfl)) (fun _ _ _ _ _ => pts_nil) (fun _ _ _ _ _ => (pe_call GRe hr rfl T.ref FRe.kp bRe .nil pass0 (pa_cons (pv 11) pa_nil)))) (pe_lst (pa_cons (pe_tup (pa_cons pe_str (pa_cons pe_str pa_nil))) (pa_cons (pe_tup (pa_cons pe_str (pa_cons pe_int pa_nil))) (pa_cons (pe_tup (pa_cons pe_str (pa_cons pe_int pa_nil))) pa_nil)))) (nomark _)) (pss_one (ps_ret pe_bl)) pss_nil)
      (pss_cons (ps_set (i := 10) scLaw.nd rfl (Or.inl rfl) (pe_call GT hr1 rfl T.take FT.kp bT .nil pass0 (pa_cons (pv 1) (pa_cons pe_int pa_nil))))
      (pss_cons (ps_if (pt_cmpR (op_neD hr.units) (pe_call GKe hr rfl T.key FKe.kp bKe .nil pass0 (pa_cons (pv 10) (pa_cons (pe_op op_sub (pe_un un_neg pe_int) (pv 10)) pa_nil))) (pe_tup (pa_cons pe_str (pa_cons (pe_op op_sub (pe_un un_neg pe_int) (pv 10)) pa_nil))) (nomark _)) (pss_one (ps_ret pe_bl)) pss_nil)
      (pss_one (ps_ret (pe_and (pe_cmpR (op_eqD hr.units) (pe_call GKe hr rfl T.key FKe.kp bKe .nil pass0 (pa_cons (pv 10) (pa_cons (pv 10) pa_nil))) (pe_tup (pa_cons pe_str (pa_cons pe_int pa_nil))) (nomark _)) (pe_one (pe_cmpR op_eq (pe_callB (Own.call_lenO GLn hsL hfL hr2 pass0) (by rfl) T.b_len PySem.boot_len (pa_cons (KwX.pe_makeW0 (E := fun _ => E0) MK.M MK.r0 hr7 rfl MK.g (passS passL)) pa_nil)) pe_int (nomark _))))))))))))))), ?_⟩
    have pow20 : CPow 10 20 := ⟨by decide, by decide, by decide⟩
    have sm : ∀ {x : Int}, x.natAbs ≤ 10 ^ 20 → x.natAbs < 2 ^ 1000 := fun {x} h => Nat.lt_of_le_of_lt h (by decide +kernel)
    have sm8 : ∀ {x : Int}, x.natAbs ≤ 10 ^ 20 → x.natAbs < 2 ^ 8000 := fun {x} h => Nat.lt_of_le_of_lt h (by decide +kernel)
    refine ⟨_, rfl, a, ns, rfl, hS, h63, fun b l H1 B1 nb nl s1 => ?_⟩
    refine mk_rack [] rfl rfl (by decide) (fun _ h => nomatch h) (fun c => absurd c (by decide)) (fun _ acc y L e => by cases e) (fun _ _ r d H2 nr nd nrd S2 R2 => ?_)
    refine ⟨by show 0 ≤ sizeLine; decide, fun rl hrl => ?_⟩
    have B3 : Box (upd H2 rl (.lst [])) b l := (B1.same S2).same (same_new hrl)
    have nrl : rl ≠ l := Ne.symm ((B1.same S2).free hrl).2
    have W3 : Wld CR (upd H2 rl (.lst [])) b l r d rl [] := ⟨B3, R2.same (same_new hrl), ⟨[], upd_same, rfl, fun i t y L e => by cases e⟩, by decide, (fun _ h => nomatch h), List.nodup_nil, nrl⟩
    generalize upd H2 rl (.lst []) = H3 at B3 W3
    refine ⟨fun σ' H' => ∃ (r d rl : Addr) (rows : List Row) (v4 v5 : Option V), σ' = [some (.ref a), some (.ref b), some (.ref r), some (.ref rl), v4, v5, none, none, none, none, none, none] ∧ Wld CR H' b l r d rl rows, ?_, ?_⟩
    · refine ⟨_, rfl, b, l, _, rfl, B3, by decide, by decide, fun q H4 q0 q1 B4 k4 => ⟨rfl, _, rfl, ite2 (fun _ => ?_) (fun _ => ⟨r, d, rl, [], _, _, rfl, W3.draw B4 (SameB.of k4)⟩)⟩⟩
      refine ⟨_, rfl, _, _, rfl, rfl, pow20, b, l, _, rfl, B4, by decide, by decide +kernel, fun L1 H5 a0 a1 B5 k5 => ?_⟩
      refine ⟨_, rfl, _, _, rfl, rfl, pow20, b, l, _, rfl, B5, by decide, by decide +kernel, fun L2' H6 c0 c1 B6 k6 => ?_⟩
      have a2 : L1.natAbs ≤ 10 ^ 20 := by have : L1 < 10 ^ 20 := a1; omega
      have c2 : L2'.natAbs ≤ 10 ^ 20 := by have : L2' < 10 ^ 20 := c1; omega
      have e0 : firstBad [] [(("birch" : Str), L1), ("ash", L2')] = none := by
        rw [fb_put (by decide +kernel) rfl a0 (by decide), fb_put (by decide +kernel) rfl c0 (by simp)]
        rfl
      refine ⟨_, rfl, _, rfl, mk_rack [("birch", L1), ("ash", L2')] rfl rfl (by simp) (fun p hp => ?_) (fun c => absurd c (by simp)) (fun _ acc y L e => by rw [e0] at e; cases e) (fun _ _ r' d' H7 nr' nd' nrd' S7 R7 => ?_)⟩
      · simp only [List.mem_cons, List.not_mem_nil, or_false] at hp
        rcases hp with rfl | rfl
        · exact ⟨(by decide +kernel : Fit "birch"), sm a2⟩
        · exact ⟨(by decide +kernel : Fit "ash"), sm c2⟩
      refine ⟨_, rfl, by show 2 ≤ sizeLine; decide, fun t1 ht1 => ⟨_, rfl, by show 2 ≤ sizeLine; decide, fun t2 ht2 => ⟨by show 2 ≤ sizeLine; decide, fun rl' hrl' => ?_⟩⟩⟩
      have S8 := same_tr (same_tr (same_new (o := .tup [V.str "birch", .int L1]) ht1) (same_new (o := .tup [V.str "ash", .int L2']) ht2)) (same_new (o := .lst [V.ref t1, .ref t2]) hrl')
      have B7 := B6.same S7
      have nt12 : t1 ≠ t2 := fun z => by rw [z, upd_same] at ht2; cases ht2
      have n1 : t1 ≠ rl' := fun z => by
        subst z
        rw [upd_ne nt12, upd_same] at hrl'
        cases hrl'
      have n2 : t2 ≠ rl' := fun z => by
        subst z
        rw [upd_same] at hrl'
        cases hrl'
      refine ⟨r', d', rl', [("birch", L1), ("ash", L2')], _, _, rfl, B7.same S8, R7.same S8, ⟨[t1, t2], upd_same, rfl, fun i t y L e1 e2 => ?_⟩, by simp, ?_, by simp; decide +kernel, Ne.symm (((B7.same (same_new ht1)).same (same_new ht2)).free hrl').2⟩
      · match i, e1, e2 with
        | 0, e1, e2 =>
          cases e1
          cases e2
          rw [upd_ne n1, upd_ne nt12, upd_same]
        | 1, e1, e2 =>
          cases e1
          cases e2
          rw [upd_ne n2, upd_same]
        | i + 2, e1, e2 => cases e1
      · intro p hp
        simp only [List.mem_cons, List.not_mem_nil, or_false] at hp
        rcases hp with rfl | rfl
        · exact (by decide +kernel : Fit "birch")
        · exact (by decide +kernel : Fit "ash")
    clear W3 B3 nrl R2 S2 nr nd nrd hrl
    rintro σ' H4 ⟨r, d, rl, rows, v4, v5, rfl, W4⟩
    refine ⟨_, rfl, _, rfl, r, d, rl, rows, "oak", rfl, W4.R, W4.A, W4.n8, W4.fit, W4.nd, by decide +kernel, fun H5 S5 => ⟨true, rfl, if_f rfl ?_⟩⟩
    have W5 := W4.same S5
    refine ⟨_, rfl, b, l, _, rfl, W5.B, by decide, by decide, fun n H6 n0 n1 B6 k6 => ⟨n, rfl, by omega, by omega, ?_⟩⟩
    have W6 := W5.draw B6 (SameB.of k6)
    clear W4 W5 k6 B6 S5
    refine for_it (walk_range (lo := 0) (n := n.toNat)) (fun i σ' H' => ∃ (rows : List Row) (v6 v7 v8 v9 : Option V), σ' = [some (.ref a), some (.ref b), some (.ref r), some (.ref rl), v4, v5, v6, v7, v8, v9, none, none] ∧ Wld CR H' b l r d rl rows) ⟨rows, _, _, _, _, rfl, W6⟩ (fun _ _ _ _ _ => trivial) ?_ ?_
    · clear W6
      rintro i x σ' H7 H8 hi ⟨rows, v6, v7, v8, v9, rfl, W⟩ ⟨rfl, rfl⟩
      refine ⟨_, rfl, _, rfl, b, l, rl, rows, rfl, W.B, W.A, by have := W.n8; omega, W.fit, fun y H2 fy B2 s2 => ?_⟩
      have W2 := W.draw B2 s2
      refine ⟨_, rfl, _, _, rfl, rfl, pow20, by show 2 ≤ sizeLine; decide, fun p hp => ?_⟩
      have fr := W2.B.free hp
      refine ⟨_, rfl, b, l, _, rfl, W2.B.at fr, by decide, by decide, fun q H3 q0 q1 B3 k3 => ?_⟩
      have hp3 : H3 p = some (.lst [.int 5, .int (10 ^ 20)]) := by
        rw [k3 p (Ne.symm fr.1)]
        exact upd_same
      obtain ⟨n, hn, n1, n2⟩ : ∃ n : Int, atI [V.int 5, .int (10 ^ 20)] q = some (.int n) ∧ 0 < n ∧ n ≤ 10 ^ 20 := by
        have : q = 0 ∨ q = 1 := by omega
        rcases this with rfl | rfl
        · exact ⟨5, rfl, by decide, by decide⟩
        · exact ⟨10 ^ 20, rfl, by decide, Int.le_refl _⟩
      refine ⟨p, _, q, _, rfl, rfl, SqL.of hp3, hn, b, l, n, rfl, B3, n1, sm8 (by omega), fun L H4 L0 L1 B4 k4 => ?_⟩
      have W4 := W2.draw B4 (fun c o nc e => (k4 c nc).trans ((k3 c nc).trans (same_new hp c o e)))
      refine ⟨fun σ'' H'' => ∃ L' : Int, σ'' = [some (.ref a), some (.ref b), some (.ref r), some (.ref rl), v4, v5, some (.int (0 + i)), some (.str y), some (.int L'), v9, none, none] ∧ L'.natAbs ≤ 10 ^ 20 ∧ Wld CR H'' b l r d rl rows, ?_, ?_⟩
      · refine ⟨_, rfl, b, l, _, rfl, B4, by decide, by decide, fun q H5 _ _ B5 k5 => ⟨rfl, _, rfl, ite2 (fun _ => ?_) (fun _ => ⟨L, rfl, by omega, W4.draw B5 (SameB.of k5)⟩)⟩⟩
        exact ⟨_, rfl, _, rfl, _, _, rfl, rfl, -1 - L, rfl, by omega, W4.draw B5 (SameB.of k5)⟩
      clear W W2 W4 s2 hp3 k3 k4 B2 B3 B4 fr hp
      rintro _ H5 ⟨L', rfl, sL, W5⟩
      refine ⟨_, rfl, _, rfl, _, rfl, rl, rows, y, L', rfl, W5.A, by have := W5.n8; omega, W5.fit, fy, fun t1 H6 S6 e6 => ?_⟩
      have W6 := W5.same S6
      obtain ⟨D, hD, sD⟩ := due_data rows L' fy
      refine ⟨fun σ'' H'' => σ'' = [some (.ref a), some (.ref b), some (.ref r), some (.ref rl), v4, v5, some (.int (0 + i)), some (.str y), some (.int L'), some (.ref t1), none, none] ∧ H'' t1 = some (.tup (dueV rows y L')) ∧ Mid CR H'' b l r d rl rows (if due rows y L' = .put then rows ++ [(y, L')] else rows), ?_, ?_⟩
      · refine ⟨_, rfl, _, rfl, _, rfl, r, d, rows, y, L', rfl, W6.R, W6.n8, fy, sm sL, fun c t2 H7 S7 e7 => ?_, fun c t2 H7 S7 e7 => ?_⟩
        · have e67 := S7 _ _ e6
          refine ⟨_, rfl, D, D, hD _ _ _ e7, hD _ _ _ e67, sD, sD, _, rfl, if_f (by rw [eqv_rfl sD]; rfl) ⟨rfl, e67, ?_⟩⟩
          rw [if_neg c]
          have W7 := W6.same S7
          exact ⟨W7.B, W7.R, W7.A⟩
        · have nt : t1 ≠ d := fun z => by
            have hd := W6.R.2
            rw [← z, e6] at hd
            cases hd
          have e67 := S7 t1 _ (by rw [upd_ne nt]; exact e6)
          refine ⟨_, rfl, D, D, hD _ _ _ e7, hD _ _ _ e67, sD, sD, _, rfl, if_f (by rw [eqv_rfl sD]; rfl) ⟨rfl, e67, ?_⟩⟩
          rw [if_pos c]
          exact W6.put S7
      rintro _ H7 ⟨rfl, e7, M7⟩
      refine ⟨fun σ'' H'' => ∃ rows' : List Row, σ'' = [some (.ref a), some (.ref b), some (.ref r), some (.ref rl), v4, v5, some (.int (0 + i)), some (.str y), some (.int L'), some (.ref t1), none, none] ∧ Wld CR H'' b l r d rl rows', ?_, ?_⟩
      · refine ⟨_, rfl, t1, _, 0, _, rfl, rfl, SqT.of e7, due_at rows y L', rfl, _, rfl, ?_⟩
        by_cases c : due rows y L' = .put
        · rw [if_pos c] at M7
          refine if_t (by rw [(due_put rows y L').mpr c]; exact decide_eq_true rfl) ?_
          obtain ⟨xs, hxs, hlen⟩ := M7.A.len
          refine ⟨_, rfl, .inl ⟨rfl, _, SqL.of hxs⟩, _, rfl, _, rfl, by show 2 ≤ sizeLine; decide, fun t ht => ?_⟩
          refine ⟨rl, xs, _, rfl, rfl, by rw [upd_ne (ne_of_none hxs ht)]; exact hxs, small1000 (by have := W6.n8; omega), rows ++ [(y, L')], rfl, M7.push W6.fit W6.nd W6.nl c fy ht hxs⟩
        · rw [if_neg c] at M7
          refine if_f (decide_eq_false fun z => c ((due_put rows y L').mp (V.str.inj z))) ?_
          exact ⟨rows, rfl, M7.B, M7.R, M7.A, W6.n8, W6.fit, W6.nd, W6.nl⟩
      rintro _ H8 ⟨rows', rfl, W8⟩
      exact ⟨_, rfl, _, rfl, _, rfl, r, d, rl, rows', y, rfl, W8.R, W8.A, W8.n8, W8.fit, W8.nd, fy, fun H9 S9 => ⟨true, rfl, if_f rfl ⟨rows', _, _, _, _, rfl, W8.same S9⟩⟩⟩
    clear W6
    rintro σ' H1 ⟨rows, v6, v7, v8, v9, rfl, W⟩
    refine ⟨3, rfl, by decide, by decide, fun D hD => ?_⟩
    refine lc_range (lo := 0) (n := 3) (fun i H' => ∃ ts : List Addr, H' D = some (.lst (ts.map V.ref)) ∧ ts.length = i ∧ (∀ (j : Nat) (t : Addr), ts[j]? = some t → H' t = some (.tup (refV j))) ∧ Same H1 H') ⟨[], upd_same, rfl, (fun j t e => by cases e), same_new hD⟩ ?_ ?_
    · rintro i H2 hi ⟨ts, y1, y2, y3, s2⟩
      refine ⟨rfl, _, rfl, _, rfl, fun t H3 S3 e3 => ⟨_, S3 _ _ y1, small1000 (by rw [List.length_map]; omega), ts ++ [t], ?_, by simp [y2], fun j t' e => ?_, fun c o e => ?_⟩⟩
      · rw [upd_same, List.map_append]
        rfl
      · have e4 : H3 t' = some (.tup (refV j)) := by
          by_cases hj : j < ts.length
          · rw [List.getElem?_append_left hj] at e
            exact S3 _ _ (y3 j t' e)
          · rw [List.getElem?_append_right (by omega)] at e
            have ei : j - ts.length = 0 := by
              have := (List.getElem?_eq_some_iff.mp e).1
              simp at this
              omega
            rw [ei] at e
            cases e
            have ej : (0 : Int) + (i : Int) = (j : Int) := by omega
            rw [ej] at e3
            exact e3
        have nD : t' ≠ D := fun z => by
          subst z
          rw [S3 _ _ y1] at e4
          cases e4
        rw [upd_ne nD]
        exact e4
      · rw [upd_ne (ne_of_none e hD)]
        exact S3 _ _ (s2 _ _ e)
    rintro H2 ⟨ts, y1, y2, y3, s2⟩
    match ts, y2 with
    | [a0, a1, a2], _ =>
    refine ⟨by show 2 ≤ sizeLine; decide, fun t1 h1 => ⟨by show 2 ≤ sizeLine; decide, fun t2 h2 => ⟨by show 2 ≤ sizeLine; decide, fun t3 h3 => ⟨by show 3 ≤ sizeLine; decide, fun pl hpl => ?_⟩⟩⟩⟩
    have S := same_tr (same_tr (same_tr (same_new (o := .tup [V.str "BadName", .str "Ash"]) h1) (same_new (o := .tup [V.str "TooMany", .int 9]) h2)) (same_new (o := .tup [V.str "TooMany", .int 10]) h3)) (same_new (o := .lst [V.ref t1, .ref t2, .ref t3]) hpl)
    have f1 := (same_tr (same_tr (same_new (o := .tup [V.str "TooMany", .int 9]) h2) (same_new (o := .tup [V.str "TooMany", .int 10]) h3)) (same_new (o := .lst [V.ref t1, .ref t2, .ref t3]) hpl)) t1 _ upd_same
    have f2 := (same_tr (same_new (o := .tup [V.str "TooMany", .int 10]) h3) (same_new (o := .lst [V.ref t1, .ref t2, .ref t3]) hpl)) t2 _ upd_same
    have f3 := (same_new (o := .lst [V.ref t1, .ref t2, .ref t3]) hpl) t3 _ upd_same
    refine ⟨.list [.tuple [.str "BadName", .str "Ash"], .tuple [.str "TooMany", .int 9], .tuple [.str "TooMany", .int 10]], .list [.tuple [.str "BadName", .str "Ash"], .tuple [.str "TooMany", .int 9], .tuple [.str "TooMany", .int 10]],
      .lst (SqL.of (S _ _ y1)) (.cons (.tup (SqT.of (S _ _ (y3 0 a0 rfl))) (.cons (.str _) (.cons (.str _) .nil))) (.cons (.tup (SqT.of (S _ _ (y3 1 a1 rfl))) (.cons (.str _) (.cons (.int _) .nil))) (.cons (.tup (SqT.of (S _ _ (y3 2 a2 rfl))) (.cons (.str _) (.cons (.int _) .nil))) .nil))),
      .lst (SqL.of upd_same) (.cons (.tup (SqT.of f1) (.cons (.str _) (.cons (.str _) .nil))) (.cons (.tup (SqT.of f2) (.cons (.str _) (.cons (.int _) .nil))) (.cons (.tup (SqT.of f3) (.cons (.str _) (.cons (.int _) .nil))) .nil))),
      by decide +kernel, by decide +kernel, _, rfl, if_f (by decide +kernel) ?_⟩
    have W2 := W.same (same_tr s2 S)
    refine ⟨_, rfl, b, l, _, rfl, W2.B, by decide, by decide, fun v H4 v0 v1 B4 k4 => ?_⟩
    refine ⟨_, rfl, _, rfl, _, rfl, _, _, rfl, rfl, v, -1 - v, rfl, v0, by omega, .inr rfl, fun t H5 S5 e5 => ?_⟩
    refine ⟨_, rfl, _, rfl, _, _, rfl, rfl, by show 2 ≤ sizeLine; decide, fun p hp => ?_⟩
    rw [if_pos (by omega)] at e5
    have sD1 : SeqAt.shaped (.tuple [.str "BadNumber", .int (-1 - v)]) = true := shaped_pair (by decide +kernel) (int_ok _) rfl rfl
    refine ⟨.tuple [.str "BadNumber", .int (-1 - v)], .tuple [.str "BadNumber", .int (-1 - v)], .tup (SqT.of (same_new hp _ _ e5)) (.cons (.str _) (.cons (.int _) .nil)), .tup (SqT.of upd_same) (.cons (.str _) (.cons (.int _) .nil)), sD1, sD1, _, rfl, if_f (by rw [eqv_rfl sD1]; rfl) ?_⟩
    refine ⟨_, rfl, _, rfl, v, v, rfl, v0, by omega, .inl rfl, fun t2 H6 S6 e6 => ⟨by show 2 ≤ sizeLine; decide, fun p2 hp2 => ?_⟩⟩
    rw [if_neg (by omega)] at e6
    refine ⟨.tuple [.str "TooMany", .int 9], .tuple [.str "TooMany", .int 9], .tup (SqT.of (same_new hp2 _ _ e6)) (.cons (.str _) (.cons (.int _) .nil)), .tup (SqT.of upd_same) (.cons (.str _) (.cons (.int _) .nil)), by decide +kernel, by decide +kernel, _, rfl, if_t (by decide +kernel) ?_⟩
    refine mk_rack [] rfl rfl (by decide) (fun _ h => nomatch h) (fun c => absurd c (by decide)) (fun _ acc y L e => by cases e) (fun _ _ r' d' H7 _ _ _ S7 R7 => ?_)
    obtain ⟨⟨dx, fs, w1, w2⟩, w3⟩ := id R7
    refine ⟨r', dx, fs, rfl, w1, r', d', [], rfl, R7, 0, rfl, by decide, rfl, ?_⟩
    have z := k H7
    exact z

end
end Law

namespace Law
open PySem PySem.Spec PyProof.Rows L2 Sup NdefX
abbrev sEN : Stmt := inClass (top 5) 0
abbrev sET : Stmt := inClass (top 6) 0
abbrev sEU : Stmt := inClass (top 7) 0
abbrev sEM : Stmt := inClass (top 8) 0
theorem all_mk {P : Program} {w : World} {K : PySem.W.Frag} {h : Heap} {mg : Str → Option Value} {fa : Addr} (X : K.In h) (G : h.Ns mainGlobals mg) (hfa : mg "law" = some (.ref fa)) (htop : (P.main.scope.names.lookup ("super" : Str)).isSome = false)
    {fN : Addr} {odN anN : Option Addr} {slN : Array (Option Value)} {ocN kVN dcN pmN cdN ctN : Value}
    {fK : Addr} {odK anK : Option Addr} {slK : Array (Option Value)} {ocK kVK dcK pmK cdK ctK : Value}
    {fRi : Addr} {odRi anRi : Option Addr} {slRi : Array (Option Value)} {ocRi kVRi dcRi pmRi cdRi ctRi : Value}
    {fRp : Addr} {odRp anRp : Option Addr} {slRp : Array (Option Value)} {ocRp kVRp dcRp pmRp cdRp ctRp : Value}
    {fRn : Addr} {odRn anRn : Option Addr} {slRn : Array (Option Value)} {ocRn kVRn dcRn pmRn cdRn ctRn : Value}
    {fRl : Addr} {odRl anRl : Option Addr} {slRl : Array (Option Value)} {ocRl kVRl dcRl pmRl cdRl ctRl : Value}
    {fRz : Addr} {odRz anRz : Option Addr} {slRz : Array (Option Value)} {ocRz kVRz dcRz pmRz cdRz ctRz : Value}
    {fRc : Addr} {odRc anRc : Option Addr} {slRc : Array (Option Value)} {ocRc kVRc dcRc pmRc cdRc ctRc : Value}
    {fB : Addr} {odB anB : Option Addr} {slB : Array (Option Value)} {ocB kVB dcB pmB cdB ctB : Value}
    {fT : Addr} {odT anT : Option Addr} {slT : Array (Option Value)} {ocT kVT dcT pmT cdT ctT : Value}
    {fNm : Addr} {odNm anNm : Option Addr} {slNm : Array (Option Value)} {ocNm kVNm dcNm pmNm cdNm ctNm : Value}
    {fBd : Addr} {odBd anBd : Option Addr} {slBd : Array (Option Value)} {ocBd kVBd dcBd pmBd cdBd ctBd : Value}
    {fDu : Addr} {odDu anDu : Option Addr} {slDu : Array (Option Value)} {ocDu kVDu dcDu pmDu cdDu ctDu : Value}
    {fPu : Addr} {odPu anPu : Option Addr} {slPu : Array (Option Value)} {ocPu kVPu dcPu pmPu cdPu ctPu : Value}
    {fUk : Addr} {odUk anUk : Option Addr} {slUk : Array (Option Value)} {ocUk kVUk dcUk pmUk cdUk ctUk : Value}
    {fSa : Addr} {odSa anSa : Option Addr} {slSa : Array (Option Value)} {ocSa kVSa dcSa pmSa cdSa ctSa : Value}
    {fRe : Addr} {odRe anRe : Option Addr} {slRe : Array (Option Value)} {ocRe kVRe dcRe pmRe cdRe ctRe : Value}
    {fKe : Addr} {odKe anKe : Option Addr} {slKe : Array (Option Value)} {ocKe kVKe dcKe pmKe cdKe ctKe : Value}
    {fL : Addr} {odL anL : Option Addr} {slL : Array (Option Value)} {ocL kVL dcL pmL cdL ctL : Value}
    {CEB BEB fiEB cdEB ccEB NEB : Addr} {nmEB qEB : Str} {bsEB : List Value} {snEB : List Str} {subEB : List Value} {abEB : Bool} {colEB : Option Bool} {ddEB : Option Addr} {m0EB m1EB m2EB m3EB m5EB : Option Value}
    {odEB anEB dkEB deEB : Option Addr} {slEB skEB seEB : Array (Option Value)} {ocEB kVEB dcEB pmEB ctEB ckEB ceEB : Value} {vkEB : Array Value} {flEB : Str} {tfEB : Tok}
    {CEN BEN fiEN cdEN ccEN NEN : Addr} {nmEN qEN : Str} {bsEN : List Value} {snEN : List Str} {subEN : List Value} {abEN : Bool} {colEN : Option Bool} {ddEN : Option Addr} {m0EN m1EN m2EN m3EN m5EN : Option Value}
    {odEN anEN dkEN deEN : Option Addr} {slEN skEN seEN : Array (Option Value)} {ocEN kVEN dcEN pmEN ctEN ckEN ceEN : Value} {vkEN : Array Value} {flEN : Str} {tfEN : Tok}
    {CET BET fiET cdET ccET NET : Addr} {nmET qET : Str} {bsET : List Value} {snET : List Str} {subET : List Value} {abET : Bool} {colET : Option Bool} {ddET : Option Addr} {m0ET m1ET m2ET m3ET m5ET : Option Value}
    {odET anET dkET deET : Option Addr} {slET skET seET : Array (Option Value)} {ocET kVET dcET pmET ctET ckET ceET : Value} {vkET : Array Value} {flET : Str} {tfET : Tok}
    {CEU BEU fiEU cdEU ccEU NEU : Addr} {nmEU qEU : Str} {bsEU : List Value} {snEU : List Str} {subEU : List Value} {abEU : Bool} {colEU : Option Bool} {ddEU : Option Addr} {m0EU m1EU m2EU m3EU m5EU : Option Value}
    {odEU anEU dkEU deEU : Option Addr} {slEU skEU seEU : Array (Option Value)} {ocEU kVEU dcEU pmEU ctEU ckEU ceEU : Value} {vkEU : Array Value} {flEU : Str} {tfEU : Tok}
    {CEM BEM fiEM cdEM ccEM NEM : Addr} {nmEM qEM : Str} {bsEM : List Value} {snEM : List Str} {subEM : List Value} {abEM : Bool} {colEM : Option Bool} {ddEM : Option Addr} {m0EM m1EM m2EM m3EM m5EM : Option Value}
    {odEM anEM dkEM deEM : Option Addr} {slEM skEM seEM : Array (Option Value)} {ocEM kVEM dcEM pmEM ctEM ckEM ceEM : Value} {vkEM : Array Value} {flEM : Str} {tfEM : Tok}
    {CRack LE : Addr} {tkLT tkLG tkMO : Tok}
    (aCR : PySem.W.nsIn K mainGlobals "Rack" = some (some (.ref CRack)))
    (aN : PySem.W.nsIn K mainGlobals "check_name" = some (some (.ref fN)))
    (lN : K.lookup fN = some ⟨ocN, odN, .func (PySem.W.fnOf "check_name" "check_name" (defArgs sCkn) (defBody sCkn) (defScope sCkn) .none kVN dcN pmN anN cdN ctN), slN⟩)
    (cN : PySem.W.codeIn K cdN "check_name" = true)
    (kN : PySem.W.keepIn K (.ref fN) = true)
    (aK : PySem.W.nsIn K mainGlobals "check_not_negative" = some (some (.ref fK)))
    (lK : K.lookup fK = some ⟨ocK, odK, .func (PySem.W.fnOf "check_not_negative" "check_not_negative" (defArgs sChk) (defBody sChk) (defScope sChk) .none kVK dcK pmK anK cdK ctK), slK⟩)
    (cK : PySem.W.codeIn K cdK "check_not_negative" = true)
    (kK : PySem.W.keepIn K (.ref fK) = true)
    (aRi : PySem.W.findIn K (.ref CRack) "__init__" = some (some (.ref fRi)))
    (lRi : K.lookup fRi = some ⟨ocRi, odRi, .func (PySem.W.fnOf "__init__" "Rack.__init__" (defArgs sRini) (defBody sRini) (defScope sRini) .none kVRi dcRi pmRi anRi cdRi ctRi), slRi⟩)
    (cRi : PySem.W.codeIn K cdRi "Rack.__init__" = true)
    (kRi : PySem.W.keepIn K (.ref fRi) = true)
    (iRi : PySem.W.isFn K (.ref fRi) = true)
    (aRp : PySem.W.findIn K (.ref CRack) "put" = some (some (.ref fRp)))
    (lRp : K.lookup fRp = some ⟨ocRp, odRp, .func (PySem.W.fnOf "put" "Rack.put" (defArgs sPut) (defBody sPut) (defScope sPut) .none kVRp dcRp pmRp anRp cdRp ctRp), slRp⟩)
    (cRp : PySem.W.codeIn K cdRp "Rack.put" = true)
    (kRp : PySem.W.keepIn K (.ref fRp) = true)
    (iRp : PySem.W.isFn K (.ref fRp) = true)
    (aRn : PySem.W.findIn K (.ref CRack) "names" = some (some (.ref fRn)))
    (lRn : K.lookup fRn = some ⟨ocRn, odRn, .func (PySem.W.fnOf "names" "Rack.names" (defArgs sNms) (defBody sNms) (defScope sNms) .none kVRn dcRn pmRn anRn cdRn ctRn), slRn⟩)
    (cRn : PySem.W.codeIn K cdRn "Rack.names" = true)
    (kRn : PySem.W.keepIn K (.ref fRn) = true)
    (iRn : PySem.W.isFn K (.ref fRn) = true)
    (aRl : PySem.W.findIn K (.ref CRack) "length_of" = some (some (.ref fRl)))
    (lRl : K.lookup fRl = some ⟨ocRl, odRl, .func (PySem.W.fnOf "length_of" "Rack.length_of" (defArgs sLof) (defBody sLof) (defScope sLof) .none kVRl dcRl pmRl anRl cdRl ctRl), slRl⟩)
    (cRl : PySem.W.codeIn K cdRl "Rack.length_of" = true)
    (kRl : PySem.W.keepIn K (.ref fRl) = true)
    (iRl : PySem.W.isFn K (.ref fRl) = true)
    (aRz : PySem.W.findIn K (.ref CRack) "__len__" = some (some (.ref fRz)))
    (lRz : K.lookup fRz = some ⟨ocRz, odRz, .func (PySem.W.fnOf "__len__" "Rack.__len__" (defArgs sLen) (defBody sLen) (defScope sLen) .none kVRz dcRz pmRz anRz cdRz ctRz), slRz⟩)
    (cRz : PySem.W.codeIn K cdRz "Rack.__len__" = true)
    (kRz : PySem.W.keepIn K (.ref fRz) = true)
    (iRz : PySem.W.isFn K (.ref fRz) = true)
    (aRc : PySem.W.findIn K (.ref CRack) "__contains__" = some (some (.ref fRc)))
    (lRc : K.lookup fRc = some ⟨ocRc, odRc, .func (PySem.W.fnOf "__contains__" "Rack.__contains__" (defArgs sCon) (defBody sCon) (defScope sCon) .none kVRc dcRc pmRc anRc cdRc ctRc), slRc⟩)
    (cRc : PySem.W.codeIn K cdRc "Rack.__contains__" = true)
    (kRc : PySem.W.keepIn K (.ref fRc) = true)
    (iRc : PySem.W.isFn K (.ref fRc) = true)
    (aB : PySem.W.nsIn K mainGlobals "_law_box" = some (some (.ref fB)))
    (lB : K.lookup fB = some ⟨ocB, odB, .func (PySem.W.fnOf "_law_box" "_law_box" (defArgs sBox) (defBody sBox) (defScope sBox) .none kVB dcB pmB anB cdB ctB), slB⟩)
    (cB : PySem.W.codeIn K cdB "_law_box" = true)
    (kB : PySem.W.keepIn K (.ref fB) = true)
    (aT : PySem.W.nsIn K mainGlobals "_law_take" = some (some (.ref fT)))
    (lT : K.lookup fT = some ⟨ocT, odT, .func (PySem.W.fnOf "_law_take" "_law_take" (defArgs sTake) (defBody sTake) (defScope sTake) .none kVT dcT pmT anT cdT ctT), slT⟩)
    (cT : PySem.W.codeIn K cdT "_law_take" = true)
    (kT : PySem.W.keepIn K (.ref fT) = true)
    (aNm : PySem.W.nsIn K mainGlobals "_law_name" = some (some (.ref fNm)))
    (lNm : K.lookup fNm = some ⟨ocNm, odNm, .func (PySem.W.fnOf "_law_name" "_law_name" (defArgs sNam) (defBody sNam) (defScope sNam) .none kVNm dcNm pmNm anNm cdNm ctNm), slNm⟩)
    (cNm : PySem.W.codeIn K cdNm "_law_name" = true)
    (kNm : PySem.W.keepIn K (.ref fNm) = true)
    (aBd : PySem.W.nsIn K mainGlobals "_law_bad" = some (some (.ref fBd)))
    (lBd : K.lookup fBd = some ⟨ocBd, odBd, .func (PySem.W.fnOf "_law_bad" "_law_bad" (defArgs sBad) (defBody sBad) (defScope sBad) .none kVBd dcBd pmBd anBd cdBd ctBd), slBd⟩)
    (cBd : PySem.W.codeIn K cdBd "_law_bad" = true)
    (kBd : PySem.W.keepIn K (.ref fBd) = true)
    (aDu : PySem.W.nsIn K mainGlobals "_law_due" = some (some (.ref fDu)))
    (lDu : K.lookup fDu = some ⟨ocDu, odDu, .func (PySem.W.fnOf "_law_due" "_law_due" (defArgs sDue) (defBody sDue) (defScope sDue) .none kVDu dcDu pmDu anDu cdDu ctDu), slDu⟩)
    (cDu : PySem.W.codeIn K cdDu "_law_due" = true)
    (kDu : PySem.W.keepIn K (.ref fDu) = true)
    (aPu : PySem.W.nsIn K mainGlobals "_law_put" = some (some (.ref fPu)))
    (lPu : K.lookup fPu = some ⟨ocPu, odPu, .func (PySem.W.fnOf "_law_put" "_law_put" (defArgs sPutL) (defBody sPutL) (defScope sPutL) .none kVPu dcPu pmPu anPu cdPu ctPu), slPu⟩)
    (cPu : PySem.W.codeIn K cdPu "_law_put" = true)
    (kPu : PySem.W.keepIn K (.ref fPu) = true)
    (aUk : PySem.W.nsIn K mainGlobals "_law_unknown" = some (some (.ref fUk)))
    (lUk : K.lookup fUk = some ⟨ocUk, odUk, .func (PySem.W.fnOf "_law_unknown" "_law_unknown" (defArgs sUnk) (defBody sUnk) (defScope sUnk) .none kVUk dcUk pmUk anUk cdUk ctUk), slUk⟩)
    (cUk : PySem.W.codeIn K cdUk "_law_unknown" = true)
    (kUk : PySem.W.keepIn K (.ref fUk) = true)
    (aSa : PySem.W.nsIn K mainGlobals "_law_same" = some (some (.ref fSa)))
    (lSa : K.lookup fSa = some ⟨ocSa, odSa, .func (PySem.W.fnOf "_law_same" "_law_same" (defArgs sSam) (defBody sSam) (defScope sSam) .none kVSa dcSa pmSa anSa cdSa ctSa), slSa⟩)
    (cSa : PySem.W.codeIn K cdSa "_law_same" = true)
    (kSa : PySem.W.keepIn K (.ref fSa) = true)
    (aRe : PySem.W.nsIn K mainGlobals "_law_refused" = some (some (.ref fRe)))
    (lRe : K.lookup fRe = some ⟨ocRe, odRe, .func (PySem.W.fnOf "_law_refused" "_law_refused" (defArgs sRef) (defBody sRef) (defScope sRef) .none kVRe dcRe pmRe anRe cdRe ctRe), slRe⟩)
    (cRe : PySem.W.codeIn K cdRe "_law_refused" = true)
    (kRe : PySem.W.keepIn K (.ref fRe) = true)
    (aKe : PySem.W.nsIn K mainGlobals "_law_keywords" = some (some (.ref fKe)))
    (lKe : K.lookup fKe = some ⟨ocKe, odKe, .func (PySem.W.fnOf "_law_keywords" "_law_keywords" (defArgs sKey) (defBody sKey) (defScope sKey) .none kVKe dcKe pmKe anKe cdKe ctKe), slKe⟩)
    (cKe : PySem.W.codeIn K cdKe "_law_keywords" = true)
    (kKe : PySem.W.keepIn K (.ref fKe) = true)
    (aL : PySem.W.nsIn K mainGlobals "law" = some (some (.ref fL)))
    (lL : K.lookup fL = some ⟨ocL, odL, .func (PySem.W.fnOf "law" "law" (defArgs sLaw) (defBody sLaw) (defScope sLaw) .none kVL dcL pmL anL cdL ctL), slL⟩)
    (cL : PySem.W.codeIn K cdL "law" = true)
    (kL : PySem.W.keepIn K (.ref fL) = true)
    (opq : PySem.W.nsIn K cStatics "thirdparty.any" = some none)
    (nsup : PySem.W.nsIn K mainGlobals "super" = some none)
    (aEB : PySem.W.nsIn K mainGlobals "BadNumber" = some (some (.ref CEB)))
    (xEB : K.lookup CEB = some (excClassObj nmEB qEB CEB NEB bsEB [.ref BEB, .type "ValueError", .type "Exception", .type "BaseException", .type "object"] true snEB subEB abEB colEB ddEB m0EB m1EB m2EB m3EB m5EB "ValueError.__new__"))
    (saEB : PySem.W.findIn K (.ref CEB) "__setattr__" = some (some (.builtin "object.__setattr__")))
    (gaEB : PySem.W.findIn K (.ref CEB) "__getattribute__" = some (some (.builtin "BaseException.__getattribute__")))
    (ggEB : PySem.W.findIn K (.ref CEB) "__getattr__" = some none)
    (nbEB : PySem.W.findIn K (.ref CEB) "value" = some none)
    (iEB : PySem.W.findIn K (.ref CEB) "__init__" = some (some (.ref fiEB)))
    (tEB : PySem.W.typeIn K (.ref fiEB) = some (.type "function"))
    (lEB : K.lookup fiEB = some ⟨ocEB, odEB, .func (PySem.W.fnX "__init__" "BadNumber.__init__" (defArgs sErr) (defBody sErr) (defScope sErr) [("__class__", ccEB)] .none kVEB dcEB pmEB anEB (.ref cdEB) ctEB), slEB⟩)
    (coEB : PySem.W.codeIn K (.ref cdEB) "BadNumber.__init__" = true)
    (lkEB : K.lookup cdEB = some ⟨ckEB, dkEB, .fields vkEB, skEB⟩)
    (vkEBx : vkEB[2]? = some (.str flEB tfEB))
    (feEB : ((P.main.file : Str) == flEB) = true)
    (leEB : K.lookup ccEB = some ⟨ceEB, deEB, .cell (some (.ref CEB)), seEB⟩)
    (mrEB : PySem.W.mroIn K CEB (.ref CEB) = some true)
    (upEB : PySem.W.ks_superIn K CEB CEB "__init__" = some (some (.builtin "ValueError.__init__")))
    (svEB : PySem.W.subIn K (.ref CEB) (.type "ValueError") = some true)
    (kcEB : PySem.W.keepIn K (.ref CEB) = true)
    (ebEB : PySem.W.subIn K (.ref CEB) (.type "BaseException") = some true)
    (tyEB : PySem.W.typeIn K (.ref CEB) = some (.type "type"))
    (hdEB : PySem.W.hasDictIn K CEB = true)
    (ssEB : PySem.W.subIn K (.ref CEB) (.ref CEB) = some true)
    (aEN : PySem.W.nsIn K mainGlobals "BadName" = some (some (.ref CEN)))
    (xEN : K.lookup CEN = some (excClassObj nmEN qEN CEN NEN bsEN [.ref BEN, .type "ValueError", .type "Exception", .type "BaseException", .type "object"] true snEN subEN abEN colEN ddEN m0EN m1EN m2EN m3EN m5EN "ValueError.__new__"))
    (saEN : PySem.W.findIn K (.ref CEN) "__setattr__" = some (some (.builtin "object.__setattr__")))
    (gaEN : PySem.W.findIn K (.ref CEN) "__getattribute__" = some (some (.builtin "BaseException.__getattribute__")))
    (ggEN : PySem.W.findIn K (.ref CEN) "__getattr__" = some none)
    (nbEN : PySem.W.findIn K (.ref CEN) "name" = some none)
    (iEN : PySem.W.findIn K (.ref CEN) "__init__" = some (some (.ref fiEN)))
    (tEN : PySem.W.typeIn K (.ref fiEN) = some (.type "function"))
    (lEN : K.lookup fiEN = some ⟨ocEN, odEN, .func (PySem.W.fnX "__init__" "BadName.__init__" (defArgs sEN) (defBody sEN) (defScope sEN) [("__class__", ccEN)] .none kVEN dcEN pmEN anEN (.ref cdEN) ctEN), slEN⟩)
    (coEN : PySem.W.codeIn K (.ref cdEN) "BadName.__init__" = true)
    (lkEN : K.lookup cdEN = some ⟨ckEN, dkEN, .fields vkEN, skEN⟩)
    (vkENx : vkEN[2]? = some (.str flEN tfEN))
    (feEN : ((P.main.file : Str) == flEN) = true)
    (leEN : K.lookup ccEN = some ⟨ceEN, deEN, .cell (some (.ref CEN)), seEN⟩)
    (mrEN : PySem.W.mroIn K CEN (.ref CEN) = some true)
    (upEN : PySem.W.ks_superIn K CEN CEN "__init__" = some (some (.builtin "ValueError.__init__")))
    (svEN : PySem.W.subIn K (.ref CEN) (.type "ValueError") = some true)
    (kcEN : PySem.W.keepIn K (.ref CEN) = true)
    (ebEN : PySem.W.subIn K (.ref CEN) (.type "BaseException") = some true)
    (tyEN : PySem.W.typeIn K (.ref CEN) = some (.type "type"))
    (hdEN : PySem.W.hasDictIn K CEN = true)
    (ssEN : PySem.W.subIn K (.ref CEN) (.ref CEN) = some true)
    (aET : PySem.W.nsIn K mainGlobals "TakenName" = some (some (.ref CET)))
    (xET : K.lookup CET = some (excClassObj nmET qET CET NET bsET [.ref BET, .type "ValueError", .type "Exception", .type "BaseException", .type "object"] true snET subET abET colET ddET m0ET m1ET m2ET m3ET m5ET "ValueError.__new__"))
    (saET : PySem.W.findIn K (.ref CET) "__setattr__" = some (some (.builtin "object.__setattr__")))
    (gaET : PySem.W.findIn K (.ref CET) "__getattribute__" = some (some (.builtin "BaseException.__getattribute__")))
    (ggET : PySem.W.findIn K (.ref CET) "__getattr__" = some none)
    (nbET : PySem.W.findIn K (.ref CET) "name" = some none)
    (iET : PySem.W.findIn K (.ref CET) "__init__" = some (some (.ref fiET)))
    (tET : PySem.W.typeIn K (.ref fiET) = some (.type "function"))
    (lET : K.lookup fiET = some ⟨ocET, odET, .func (PySem.W.fnX "__init__" "TakenName.__init__" (defArgs sET) (defBody sET) (defScope sET) [("__class__", ccET)] .none kVET dcET pmET anET (.ref cdET) ctET), slET⟩)
    (coET : PySem.W.codeIn K (.ref cdET) "TakenName.__init__" = true)
    (lkET : K.lookup cdET = some ⟨ckET, dkET, .fields vkET, skET⟩)
    (vkETx : vkET[2]? = some (.str flET tfET))
    (feET : ((P.main.file : Str) == flET) = true)
    (leET : K.lookup ccET = some ⟨ceET, deET, .cell (some (.ref CET)), seET⟩)
    (mrET : PySem.W.mroIn K CET (.ref CET) = some true)
    (upET : PySem.W.ks_superIn K CET CET "__init__" = some (some (.builtin "ValueError.__init__")))
    (svET : PySem.W.subIn K (.ref CET) (.type "ValueError") = some true)
    (kcET : PySem.W.keepIn K (.ref CET) = true)
    (ebET : PySem.W.subIn K (.ref CET) (.type "BaseException") = some true)
    (tyET : PySem.W.typeIn K (.ref CET) = some (.type "type"))
    (hdET : PySem.W.hasDictIn K CET = true)
    (ssET : PySem.W.subIn K (.ref CET) (.ref CET) = some true)
    (aEU : PySem.W.nsIn K mainGlobals "UnknownName" = some (some (.ref CEU)))
    (xEU : K.lookup CEU = some (excClassObj nmEU qEU CEU NEU bsEU [.ref BEU, .type "ValueError", .type "Exception", .type "BaseException", .type "object"] true snEU subEU abEU colEU ddEU m0EU m1EU m2EU m3EU m5EU "ValueError.__new__"))
    (saEU : PySem.W.findIn K (.ref CEU) "__setattr__" = some (some (.builtin "object.__setattr__")))
    (gaEU : PySem.W.findIn K (.ref CEU) "__getattribute__" = some (some (.builtin "BaseException.__getattribute__")))
    (ggEU : PySem.W.findIn K (.ref CEU) "__getattr__" = some none)
    (nbEU : PySem.W.findIn K (.ref CEU) "name" = some none)
    (iEU : PySem.W.findIn K (.ref CEU) "__init__" = some (some (.ref fiEU)))
    (tEU : PySem.W.typeIn K (.ref fiEU) = some (.type "function"))
    (lEU : K.lookup fiEU = some ⟨ocEU, odEU, .func (PySem.W.fnX "__init__" "UnknownName.__init__" (defArgs sEU) (defBody sEU) (defScope sEU) [("__class__", ccEU)] .none kVEU dcEU pmEU anEU (.ref cdEU) ctEU), slEU⟩)
    (coEU : PySem.W.codeIn K (.ref cdEU) "UnknownName.__init__" = true)
    (lkEU : K.lookup cdEU = some ⟨ckEU, dkEU, .fields vkEU, skEU⟩)
    (vkEUx : vkEU[2]? = some (.str flEU tfEU))
    (feEU : ((P.main.file : Str) == flEU) = true)
    (leEU : K.lookup ccEU = some ⟨ceEU, deEU, .cell (some (.ref CEU)), seEU⟩)
    (mrEU : PySem.W.mroIn K CEU (.ref CEU) = some true)
    (upEU : PySem.W.ks_superIn K CEU CEU "__init__" = some (some (.builtin "ValueError.__init__")))
    (svEU : PySem.W.subIn K (.ref CEU) (.type "ValueError") = some true)
    (kcEU : PySem.W.keepIn K (.ref CEU) = true)
    (ebEU : PySem.W.subIn K (.ref CEU) (.type "BaseException") = some true)
    (tyEU : PySem.W.typeIn K (.ref CEU) = some (.type "type"))
    (hdEU : PySem.W.hasDictIn K CEU = true)
    (ssEU : PySem.W.subIn K (.ref CEU) (.ref CEU) = some true)
    (aEM : PySem.W.nsIn K mainGlobals "TooMany" = some (some (.ref CEM)))
    (xEM : K.lookup CEM = some (excClassObj nmEM qEM CEM NEM bsEM [.ref BEM, .type "ValueError", .type "Exception", .type "BaseException", .type "object"] true snEM subEM abEM colEM ddEM m0EM m1EM m2EM m3EM m5EM "ValueError.__new__"))
    (saEM : PySem.W.findIn K (.ref CEM) "__setattr__" = some (some (.builtin "object.__setattr__")))
    (gaEM : PySem.W.findIn K (.ref CEM) "__getattribute__" = some (some (.builtin "BaseException.__getattribute__")))
    (ggEM : PySem.W.findIn K (.ref CEM) "__getattr__" = some none)
    (nbEM : PySem.W.findIn K (.ref CEM) "count" = some none)
    (iEM : PySem.W.findIn K (.ref CEM) "__init__" = some (some (.ref fiEM)))
    (tEM : PySem.W.typeIn K (.ref fiEM) = some (.type "function"))
    (lEM : K.lookup fiEM = some ⟨ocEM, odEM, .func (PySem.W.fnX "__init__" "TooMany.__init__" (defArgs sEM) (defBody sEM) (defScope sEM) [("__class__", ccEM)] .none kVEM dcEM pmEM anEM (.ref cdEM) ctEM), slEM⟩)
    (coEM : PySem.W.codeIn K (.ref cdEM) "TooMany.__init__" = true)
    (lkEM : K.lookup cdEM = some ⟨ckEM, dkEM, .fields vkEM, skEM⟩)
    (vkEMx : vkEM[2]? = some (.str flEM tfEM))
    (feEM : ((P.main.file : Str) == flEM) = true)
    (leEM : K.lookup ccEM = some ⟨ceEM, deEM, .cell (some (.ref CEM)), seEM⟩)
    (mrEM : PySem.W.mroIn K CEM (.ref CEM) = some true)
    (upEM : PySem.W.ks_superIn K CEM CEM "__init__" = some (some (.builtin "ValueError.__init__")))
    (svEM : PySem.W.subIn K (.ref CEM) (.type "ValueError") = some true)
    (kcEM : PySem.W.keepIn K (.ref CEM) = true)
    (ebEM : PySem.W.subIn K (.ref CEM) (.type "BaseException") = some true)
    (tyEM : PySem.W.typeIn K (.ref CEM) = some (.type "type"))
    (hdEM : PySem.W.hasDictIn K CEM = true)
    (ssEM : PySem.W.subIn K (.ref CEM) (.ref CEM) = some true)
    (n_len : PySem.W.nsIn K mainGlobals "len" = some none)
    (n_int : PySem.W.nsIn K mainGlobals "int" = some none)
    (n_isinstance : PySem.W.nsIn K mainGlobals "isinstance" = some none)
    (n_range : PySem.W.nsIn K mainGlobals "range" = some none)
    (n_list : PySem.W.nsIn K mainGlobals "list" = some none)
    (cPG : PySem.W.plainGet K CRack Str.empty = true)
    (cHD : PySem.W.hasDictIn K CRack = true)
    (cPO : PySem.W.plainOver K CRack = true)
    (cSA : PySem.W.findIn K (.ref CRack) "__setattr__" = some (some (.builtin "object.__setattr__")))
    (cNL : PySem.W.findIn K (.ref CRack) "_lengths" = some none)
    (cMK : PySem.W.makesIn K CRack = true)
    (cKP : PySem.W.keepIn K (.ref CRack) = true)
    (tLT : PySem.W.nsIn K mainGlobals "LETTERS" = some (some (.str letters tkLT)))
    (tLG : PySem.W.nsIn K mainGlobals "LONGEST_NAME" = some (some (.int 12 tkLG)))
    (tMO : PySem.W.nsIn K mainGlobals "MOST_LADDERS" = some (some (.int 8 tkMO)))
    (sTN : PySem.W.subIn K (.ref CET) (.ref CEN) = some false)
    (sBN : PySem.W.subIn K (.ref CEB) (.ref CEN) = some false)
    (sBT : PySem.W.subIn K (.ref CEB) (.ref CET) = some false)
    (sMN : PySem.W.subIn K (.ref CEM) (.ref CEN) = some false)
    (sMT : PySem.W.subIn K (.ref CEM) (.ref CET) = some false)
    (sMB : PySem.W.subIn K (.ref CEM) (.ref CEB) = some false)
    (sNM : PySem.W.subIn K (.ref CEN) (.ref CEM) = some false)
    (sBM : PySem.W.subIn K (.ref CEB) (.ref CEM) = some false)
    (xha : PySem.W.findIn K (.ref CEU) "__class__" = some (some (.builtin "object.__class__")))
    (xhn : PySem.W.specialIn K (.builtin "object.__class__") "__get__" = some (some (.builtin "getset_descriptor.__get__")))
    (xht : PySem.W.takesIn K (.builtin "object.__class__") = some true)
    (xhm : PySem.W.mroIn K CEU (.type "object") = some true)
    (aLE : PySem.W.nsIn K mainGlobals "LadderError" = some (some (.ref LE)))
    (kt1 : PySem.W.kitOne K (.ref CEU) (.ref LE) = some true) :
    ∃ fd : FuncData, (∀ (s : Shared) (v : Value), BindsTo s fd ⟨[v], []⟩ [("_law_script", v)]) ∧ ∀ base : Heap, K.In base → base.Ns mainGlobals mg → FnOk P w K mg base CX0 9 fa fd ["_law_script"] (spLaw K) := by
  have e := hfa.symm.trans (PySem.W.mg_of X G aL)
  cases e
  have FN := fun_mk (st := sCkn) lN cN kN
  have bN := FN.binds (ps := ["name"]) fun _ _ _ _ _ _ us hl => match us, hl with | [_], _ => rfl
  have FK := fun_mk (st := sChk) lK cK kK
  have bK := FK.binds (ps := ["number"]) fun _ _ _ _ _ _ us hl => match us, hl with | [_], _ => rfl
  have FRi := fun_mk (st := sRini) lRi cRi kRi
  have bRi := trivial
  have FRp := fun_mk (st := sPut) lRp cRp kRp
  have bRp := FRp.binds (ps := ["self", "name", "length"]) fun _ _ _ _ _ _ us hl => match us, hl with | [_, _, _], _ => rfl
  have FRn := fun_mk (st := sNms) lRn cRn kRn
  have bRn := FRn.binds (ps := ["self"]) fun _ _ _ _ _ _ us hl => match us, hl with | [_], _ => rfl
  have FRl := fun_mk (st := sLof) lRl cRl kRl
  have bRl := FRl.binds (ps := ["self", "name"]) fun _ _ _ _ _ _ us hl => match us, hl with | [_, _], _ => rfl
  have FRz := fun_mk (st := sLen) lRz cRz kRz
  have bRz := FRz.binds (ps := ["self"]) fun _ _ _ _ _ _ us hl => match us, hl with | [_], _ => rfl
  have FRc := fun_mk (st := sCon) lRc cRc kRc
  have bRc := FRc.binds (ps := ["self", "name"]) fun _ _ _ _ _ _ us hl => match us, hl with | [_, _], _ => rfl
  have FB := fun_mk (st := sBox) lB cB kB
  have bB := FB.binds (ps := ["_law_script"]) fun _ _ _ _ _ _ us hl => match us, hl with | [_], _ => rfl
  have FT := fun_mk (st := sTake) lT cT kT
  have bT := FT.binds (ps := ["_law_box_here", "_law_size"]) fun _ _ _ _ _ _ us hl => match us, hl with | [_, _], _ => rfl
  have FNm := fun_mk (st := sNam) lNm cNm kNm
  have bNm := FNm.binds (ps := ["_law_box_here", "_law_rows"]) fun _ _ _ _ _ _ us hl => match us, hl with | [_, _], _ => rfl
  have FBd := fun_mk (st := sBad) lBd cBd kBd
  have bBd := FBd.binds (ps := ["_law_name_here"]) fun _ _ _ _ _ _ us hl => match us, hl with | [_], _ => rfl
  have FDu := fun_mk (st := sDue) lDu cDu kDu
  have bDu := FDu.binds (ps := ["_law_rows", "_law_name_here", "_law_length"]) fun _ _ _ _ _ _ us hl => match us, hl with | [_, _, _], _ => rfl
  have FPu := fun_mk (st := sPutL) lPu cPu kPu
  have bPu := FPu.binds (ps := ["_law_rack", "_law_name_here", "_law_length"]) fun _ _ _ _ _ _ us hl => match us, hl with | [_, _, _], _ => rfl
  have FUk := fun_mk (st := sUnk) lUk cUk kUk
  have bUk := FUk.binds (ps := ["_law_rack", "_law_name_here"]) fun _ _ _ _ _ _ us hl => match us, hl with | [_, _], _ => rfl
  have FSa := fun_mk (st := sSam) lSa cSa kSa
  have bSa := FSa.binds (ps := ["_law_rack", "_law_rows", "_law_name_here"]) fun _ _ _ _ _ _ us hl => match us, hl with | [_, _, _], _ => rfl
  have FRe := fun_mk (st := sRef) lRe cRe kRe
  have bRe := FRe.binds (ps := ["_law_way"]) fun _ _ _ _ _ _ us hl => match us, hl with | [_], _ => rfl
  have FKe := fun_mk (st := sKey) lKe cKe kKe
  have bKe := FKe.binds (ps := ["_law_value", "_law_rest"]) fun _ _ _ _ _ _ us hl => match us, hl with | [_, _], _ => rfl
  have FL := fun_mk (st := sLaw) lL cL kL
  have bL := FL.binds (ps := ["_law_script"]) fun _ _ _ _ _ _ us hl => match us, hl with | [_], _ => rfl
  have OEB : OexC K CEB := ⟨⟨nmEB, qEB, NEB, bsEB, _, snEB, subEB, abEB, colEB, ddEB, m0EB, m1EB, m2EB, m3EB, m5EB, xEB, by rfl⟩, saEB, ebEB, tyEB, kcEB⟩
  have TEB : ErrTxt P K mg CEB fiEB cdEB ccEB "BadNumber.__init__" sErr := {
    oex := OEB
    iC := iEB
    tI := tEB
    fn := ⟨_, _, _, _, _, _, _, _, lEB⟩
    code := coEB
    file := ⟨_, vkEB, flEB, tfEB, lkEB, rfl, vkEBx, feEB⟩
    cell := ⟨_, leEB, rfl⟩
    self := mrEB
    opaque_ := opq
    up := upEB
    isVE := svEB
    top := htop
    noSup := PySem.W.mg_none_of X G nsup }
  have REB : ∀ base, ErrOk P w K mg base "BadNumber" CEB "value" okInt := fun base => by
    obtain ⟨fd, hfd, hb⟩ := err_int (w := w) (base := base) TEB rfl rfl (nscope_by (by decide +kernel)) (fun _ _ _ _ _ _ _ us hl => match us, hl with | [_, _], _ => rfl) rfl rfl rfl (by decide) (by decide) (by decide) nbEB
    exact ⟨OEB, ⟨gaEB, ggEB, ebEB, hdEB⟩, PySem.W.mg_of X G aEB, nbEB, PySem.W.exm_ref ebEB hdEB tyEB ssEB, ⟨_, fd, iEB, tEB, hfd, hb⟩⟩
  have OEN : OexC K CEN := ⟨⟨nmEN, qEN, NEN, bsEN, _, snEN, subEN, abEN, colEN, ddEN, m0EN, m1EN, m2EN, m3EN, m5EN, xEN, by rfl⟩, saEN, ebEN, tyEN, kcEN⟩
  have TEN : ErrTxt P K mg CEN fiEN cdEN ccEN "BadName.__init__" sEN := {
    oex := OEN
    iC := iEN
    tI := tEN
    fn := ⟨_, _, _, _, _, _, _, _, lEN⟩
    code := coEN
    file := ⟨_, vkEN, flEN, tfEN, lkEN, rfl, vkENx, feEN⟩
    cell := ⟨_, leEN, rfl⟩
    self := mrEN
    opaque_ := opq
    up := upEN
    isVE := svEN
    top := htop
    noSup := PySem.W.mg_none_of X G nsup }
  have REN : ∀ base, ErrOk P w K mg base "BadName" CEN "name" okTxt := fun base => by
    obtain ⟨fd, hfd, hb⟩ := err_txt (w := w) (base := base) TEN rfl rfl (nscope_by (by decide +kernel)) (fun _ _ _ _ _ _ _ us hl => match us, hl with | [_, _], _ => rfl) rfl rfl rfl (by decide) (by decide) (by decide) nbEN
    exact ⟨OEN, ⟨gaEN, ggEN, ebEN, hdEN⟩, PySem.W.mg_of X G aEN, nbEN, PySem.W.exm_ref ebEN hdEN tyEN ssEN, ⟨_, fd, iEN, tEN, hfd, hb⟩⟩
  have OET : OexC K CET := ⟨⟨nmET, qET, NET, bsET, _, snET, subET, abET, colET, ddET, m0ET, m1ET, m2ET, m3ET, m5ET, xET, by rfl⟩, saET, ebET, tyET, kcET⟩
  have TET : ErrTxt P K mg CET fiET cdET ccET "TakenName.__init__" sET := {
    oex := OET
    iC := iET
    tI := tET
    fn := ⟨_, _, _, _, _, _, _, _, lET⟩
    code := coET
    file := ⟨_, vkET, flET, tfET, lkET, rfl, vkETx, feET⟩
    cell := ⟨_, leET, rfl⟩
    self := mrET
    opaque_ := opq
    up := upET
    isVE := svET
    top := htop
    noSup := PySem.W.mg_none_of X G nsup }
  have RET : ∀ base, ErrOk P w K mg base "TakenName" CET "name" okTxt := fun base => by
    obtain ⟨fd, hfd, hb⟩ := err_txt (w := w) (base := base) TET rfl rfl (nscope_by (by decide +kernel)) (fun _ _ _ _ _ _ _ us hl => match us, hl with | [_, _], _ => rfl) rfl rfl rfl (by decide) (by decide) (by decide) nbET
    exact ⟨OET, ⟨gaET, ggET, ebET, hdET⟩, PySem.W.mg_of X G aET, nbET, PySem.W.exm_ref ebET hdET tyET ssET, ⟨_, fd, iET, tET, hfd, hb⟩⟩
  have OEU : OexC K CEU := ⟨⟨nmEU, qEU, NEU, bsEU, _, snEU, subEU, abEU, colEU, ddEU, m0EU, m1EU, m2EU, m3EU, m5EU, xEU, by rfl⟩, saEU, ebEU, tyEU, kcEU⟩
  have TEU : ErrTxt P K mg CEU fiEU cdEU ccEU "UnknownName.__init__" sEU := {
    oex := OEU
    iC := iEU
    tI := tEU
    fn := ⟨_, _, _, _, _, _, _, _, lEU⟩
    code := coEU
    file := ⟨_, vkEU, flEU, tfEU, lkEU, rfl, vkEUx, feEU⟩
    cell := ⟨_, leEU, rfl⟩
    self := mrEU
    opaque_ := opq
    up := upEU
    isVE := svEU
    top := htop
    noSup := PySem.W.mg_none_of X G nsup }
  have REU : ∀ base, ErrOk P w K mg base "UnknownName" CEU "name" okTxt := fun base => by
    obtain ⟨fd, hfd, hb⟩ := err_txt (w := w) (base := base) TEU rfl rfl (nscope_by (by decide +kernel)) (fun _ _ _ _ _ _ _ us hl => match us, hl with | [_, _], _ => rfl) rfl rfl rfl (by decide) (by decide) (by decide) nbEU
    exact ⟨OEU, ⟨gaEU, ggEU, ebEU, hdEU⟩, PySem.W.mg_of X G aEU, nbEU, PySem.W.exm_ref ebEU hdEU tyEU ssEU, ⟨_, fd, iEU, tEU, hfd, hb⟩⟩
  have OEM : OexC K CEM := ⟨⟨nmEM, qEM, NEM, bsEM, _, snEM, subEM, abEM, colEM, ddEM, m0EM, m1EM, m2EM, m3EM, m5EM, xEM, by rfl⟩, saEM, ebEM, tyEM, kcEM⟩
  have TEM : ErrTxt P K mg CEM fiEM cdEM ccEM "TooMany.__init__" sEM := {
    oex := OEM
    iC := iEM
    tI := tEM
    fn := ⟨_, _, _, _, _, _, _, _, lEM⟩
    code := coEM
    file := ⟨_, vkEM, flEM, tfEM, lkEM, rfl, vkEMx, feEM⟩
    cell := ⟨_, leEM, rfl⟩
    self := mrEM
    opaque_ := opq
    up := upEM
    isVE := svEM
    top := htop
    noSup := PySem.W.mg_none_of X G nsup }
  have REM : ∀ base, ErrOk P w K mg base "TooMany" CEM "count" okInt := fun base => by
    obtain ⟨fd, hfd, hb⟩ := err_int (w := w) (base := base) TEM rfl rfl (nscope_by (by decide +kernel)) (fun _ _ _ _ _ _ _ us hl => match us, hl with | [_, _], _ => rfl) rfl rfl rfl (by decide) (by decide) (by decide) nbEM
    exact ⟨OEM, ⟨gaEM, ggEM, ebEM, hdEM⟩, PySem.W.mg_of X G aEM, nbEM, PySem.W.exm_ref ebEM hdEM tyEM ssEM, ⟨_, fd, iEM, tEM, hfd, hb⟩⟩
  exact ⟨PySem.W.fnOf "law" "law" (defArgs sLaw) (defBody sLaw) (defScope sLaw) .none kVL dcL pmL anL cdL ctL, fun s v => .of_eq rfl, fun base _ _ => by
    have cl : Cls K CRack := ⟨cPG, cHD, cPO, cSA⟩
    have bt : BoxTxt K mg := ⟨PySem.W.mg_none_of X G n_len, PySem.W.mg_none_of X G n_int⟩
    have RT : RackTxt K mg CRack fN fK := { letters := ⟨_, PySem.W.mg_of X G tLT⟩, longest := ⟨_, PySem.W.mg_of X G tLG⟩, most := ⟨_, PySem.W.mg_of X G tMO⟩, ckn := PySem.W.mg_of X G aN, chk := PySem.W.mg_of X G aK, len := PySem.W.mg_none_of X G n_len, list := PySem.W.mg_none_of X G n_list, cl := cl, nD := cNL }
    have MP : Meth K CRack "put" fRp := ⟨aRp, iRp, kRp⟩
    have MN : Meth K CRack "names" fRn := ⟨aRn, iRn, kRn⟩
    have ML : Meth K CRack "length_of" fRl := ⟨aRl, iRl, kRl⟩
    have GP0 := ok_put (P := P) (w := w) (base := base) (C := (⟨CEN, CET, CEB, CEM, CEU⟩ : Errs)) FRp (REN base) (RET base) (REB base) (REM base) FN bN FK bK RT
    have GP := Own.fnr0 GP0 bRp
    have GNs := ok_nms (P := P) (w := w) (base := base) FRn RT
    have GLo := Own.fnr0 (ok_lof (P := P) (w := w) (base := base) (C := (⟨CEN, CET, CEB, CEM, CEU⟩ : Errs)) FRl (REU base) RT) bRl
    have GLn := Own.fnr0 (ok_len (P := P) (w := w) (base := base) FRz RT) bRz
    have GCo := Own.fnr0 (ok_con (P := P) (w := w) (base := base) FRc RT) bRc
    have AP : Apart K (⟨CEN, CET, CEB, CEM, CEU⟩ : Errs) := { tn := PySem.W.exm_ref ebEN hdEN tyEN sTN, bn := PySem.W.exm_ref ebEN hdEN tyEN sBN, bt := PySem.W.exm_ref ebET hdET tyET sBT, mn := PySem.W.exm_ref ebEN hdEN tyEN sMN, mt := PySem.W.exm_ref ebET hdET tyET sMT, mb := PySem.W.exm_ref ebEB hdEB tyEB sMB, nm := PySem.W.exm_ref ebEM hdEM tyEM sNM, bm := PySem.W.exm_ref ebEM hdEM tyEM sBM }
    have MK : MkRack P w K mg base (⟨CEN, CET, CEB, CEM, CEU⟩ : Errs) CRack fRi := { g := PySem.W.mg_of X G aCR, M := ⟨cMK, aRi, iRi, cKP⟩, r0 := ok_rini (ks := []) FRi (REM base) GP0 MP bRp (by decide +kernel) (by decide) (fun us ws hu hw => match us, hu, ws, hw with | [_], _, [], _ => rfl) RT, rksA := ok_rini (ks := ksA) FRi (REM base) GP0 MP bRp (by decide +kernel) (by decide) (fun us ws hu hw => match us, hu, ws, hw with | [_], _, [_, _], _ => rfl) RT, rksB := ok_rini (ks := ksB) FRi (REM base) GP0 MP bRp (by decide +kernel) (by decide) (fun us ws hu hw => match us, hu, ws, hw with | [_], _, [_, _, _, _, _, _, _, _, _], _ => rfl) RT, rksC := ok_rini (ks := ksC) FRi (REM base) GP0 MP bRp (by decide +kernel) (by decide) (fun us ws hu hw => match us, hu, ws, hw with | [_], _, [_, _, _, _, _, _, _, _, _, _], _ => rfl) RT, rksD := ok_rini (ks := ksD) FRi (REM base) GP0 MP bRp (by decide +kernel) (by decide) (fun us ws hu hw => match us, hu, ws, hw with | [_], _, [_, _, _, _, _, _, _, _], _ => rfl) RT, rksE := ok_rini (ks := ksE) FRi (REM base) GP0 MP bRp (by decide +kernel) (by decide) (fun us ws hu hw => match us, hu, ws, hw with | [_], _, [_, _, _, _, _, _, _, _, _], _ => rfl) RT, rksF := ok_rini (ks := ksF) FRi (REM base) GP0 MP bRp (by decide +kernel) (by decide) (fun us ws hu hw => match us, hu, ws, hw with | [_], _, [_, _], _ => rfl) RT }
    have LT : LTxt mg fT fBd := { take := PySem.W.mg_of X G aT, bad := PySem.W.mg_of X G aBd, b_len := PySem.W.mg_none_of X G n_len, b_range := PySem.W.mg_none_of X G n_range }
    have GB : FnOk P w K mg base CX0 1 fB _ ["_law_script"] (spBox K) := ok_box FB bt
    have GT : FnOk P w K mg base CX0 1 fT _ ["_law_box_here", "_law_size"] spTake := ok_take FT bt
    have GBd : FnOk P w K mg base CX0 1 fBd _ ["_law_name_here"] spBad := ok_bad FBd LT
    have GUk : FnOk P w K mg base CX0 5 fUk _ ["_law_rack", "_law_name_here"] (spUnk CRack) := ok_unk FUk (REU base) GLo ML cl { ex := ⟨gaEU, ggEU, ebEU, hdEU, xha, xhn, xht, xhm⟩, gB := PySem.W.mg_of X G aLE, isi := PySem.W.mg_none_of X G n_isinstance, k1 := kt1 }
    exact ok_law FL { box := PySem.W.mg_of X G aB, take := PySem.W.mg_of X G aT, name := PySem.W.mg_of X G aNm, due := PySem.W.mg_of X G aDu, put := PySem.W.mg_of X G aPu, same := PySem.W.mg_of X G aSa, ref := PySem.W.mg_of X G aRe, key := PySem.W.mg_of X G aKe, b_len := PySem.W.mg_none_of X G n_len, b_range := PySem.W.mg_none_of X G n_range }
      GB FB bB GT FT bT (ok_nam FNm GT FT bT LT) FNm bNm (ok_due FDu GBd FBd bBd LT) FDu bDu (ok_putL FPu (REN base) (RET base) (REB base) (REM base) GP MP cl AP) FPu bPu
      (ok_sam FSa GNs bRn MN GLo ML GLn aRz iRz GCo aRc iRc GUk FUk bUk cl { unk := PySem.W.mg_of X G aUk, b_isinstance := PySem.W.mg_none_of X G n_isinstance, b_list := PySem.W.mg_none_of X G n_list, b_len := PySem.W.mg_none_of X G n_len }) FSa bSa
      (ok_ref FRe (REN base) (REB base) (REM base) MK AP) FRe bRe (ok_key FKe (REB base) (REM base) MK AP) FKe bKe GLn aRz iRz MK⟩
theorem walk {l : PySem.W.OpenLaw} {q : Program} {loose : List Str} {XP : (Str → Option Value) → Heap → Prop} {YP : World → Heap → Prop} {d : DefRec} {K : Params → PySem.W.Frag} (hn : l.most = some 63) (hdf : d.params.defaults = [])
    (hY : ∀ (w : World) (h : Heap), YP w h → (K w.params).In h)
    (F : ∀ (w : World) (mg : Str → Option Value) (fa : Addr) (h : Heap), (K w.params).In h → h.Ns mainGlobals mg → mg d.name = some (.ref fa) →
      ∃ fd : FuncData, (∀ (s : Shared) (u : Value), BindsTo s fd ⟨[u], []⟩ [("_law_script", u)]) ∧ ∀ base : Heap, (K w.params).In base → base.Ns mainGlobals mg → FnOk l.prog w (K w.params) mg base CX0 9 fa fd ["_law_script"] (spLaw (K w.params))) :
    PySem.W.WalkO q loose XP YP l.row.toRowW d [] (fun f vs => PySem.call f vs) :=
  L2.walk_of (n := 63) (k := 9) (x := "_law_script") (CX := fun _ => CX0) (sp := fun w => spLaw (K w.params)) hn (by decide) hdf ⟨rfl, by decide, by decide⟩ hY F (fun _ _ a ns hl _ hS => ⟨a, ns, rfl, hS, hl, fun _ => rfl⟩) fun _ _ _ _ _ z => z
end Law

open PySem PySem.W PyProof.Rows
set_option maxRecDepth 100000 in
set_option maxHeartbeats 0 in
theorem PySem.Challenge.cw_rungbounds_k05_rack_of_names_holds : PySem.Challenge.rw_rungbounds_k05_rack_of_names.Holds := by
  w_on; o_law; k_head; (case hw => w_witness2)
  k_fill
  refine Law.walk (l := PySem.Challenge.rw_rungbounds_k05_rack_of_names) rfl rfl (fun w h Y => PySem.W.kIn_of Y) ?F
  case F =>
    intro w mg fa h KX G hmg
    refine' Law.all_mk KX G hmg (by rfl) ?aCR ?aN ?lN ?cN ?kN ?aK ?lK ?cK ?kK ?aRi ?lRi ?cRi ?kRi ?iRi ?aRp ?lRp ?cRp ?kRp ?iRp ?aRn ?lRn ?cRn ?kRn ?iRn ?aRl ?lRl ?cRl ?kRl ?iRl ?aRz ?lRz ?cRz ?kRz ?iRz ?aRc ?lRc ?cRc ?kRc ?iRc ?aB ?lB ?cB ?kB ?aT ?lT ?cT ?kT ?aNm ?lNm ?cNm ?kNm ?aBd ?lBd ?cBd ?kBd ?aDu ?lDu ?cDu ?kDu ?aPu ?lPu ?cPu ?kPu ?aUk ?lUk ?cUk ?kUk ?aSa ?lSa ?cSa ?kSa ?aRe ?lRe ?cRe ?kRe ?aKe ?lKe ?cKe ?kKe ?aL ?lL ?cL ?kL ?opq ?nsup ?aEB ?xEB ?saEB ?gaEB ?ggEB ?nbEB ?iEB ?tEB ?lEB ?coEB ?lkEB ?vkEBx ?feEB ?leEB ?mrEB ?upEB ?svEB ?kcEB ?ebEB ?tyEB ?hdEB ?ssEB ?aEN ?xEN ?saEN ?gaEN ?ggEN ?nbEN ?iEN ?tEN ?lEN ?coEN ?lkEN ?vkENx ?feEN ?leEN ?mrEN ?upEN ?svEN ?kcEN ?ebEN ?tyEN ?hdEN ?ssEN ?aET ?xET ?saET ?gaET ?ggET ?nbET ?iET ?tET ?lET ?coET ?lkET ?vkETx ?feET ?leET ?mrET ?upET ?svET ?kcET ?ebET ?tyET ?hdET ?ssET ?aEU ?xEU ?saEU ?gaEU ?ggEU ?nbEU ?iEU ?tEU ?lEU ?coEU ?lkEU ?vkEUx ?feEU ?leEU ?mrEU ?upEU ?svEU ?kcEU ?ebEU ?tyEU ?hdEU ?ssEU ?aEM ?xEM ?saEM ?gaEM ?ggEM ?nbEM ?iEM ?tEM ?lEM ?coEM ?lkEM ?vkEMx ?feEM ?leEM ?mrEM ?upEM ?svEM ?kcEM ?ebEM ?tyEM ?hdEM ?ssEM ?n_len ?n_int ?n_isinstance ?n_range ?n_list ?cPG ?cHD ?cPO ?cSA ?cNL ?cMK ?cKP ?tLT ?tLG ?tMO ?sTN ?sBN ?sBT ?sMN ?sMT ?sMB ?sNM ?sBM ?xha ?xhn ?xht ?xhm ?aLE ?kt1
    (case aCR => k_is)
    (case aN => k_is)
    (case lN => k_is)
    (case cN => k_is)
    (case kN => k_is)
    (case aK => k_is)
    (case lK => k_is)
    (case cK => k_is)
    (case kK => k_is)
    (case aRi => k_is)
    (case lRi => k_is)
    (case cRi => k_is)
    (case kRi => k_is)
    (case iRi => k_is)
    (case aRp => k_is)
    (case lRp => k_is)
    (case cRp => k_is)
    (case kRp => k_is)
    (case iRp => k_is)
    (case aRn => k_is)
    (case lRn => k_is)
    (case cRn => k_is)
    (case kRn => k_is)
    (case iRn => k_is)
    (case aRl => k_is)
    (case lRl => k_is)
    (case cRl => k_is)
    (case kRl => k_is)
    (case iRl => k_is)
    (case aRz => k_is)
    (case lRz => k_is)
    (case cRz => k_is)
    (case kRz => k_is)
    (case iRz => k_is)
    (case aRc => k_is)
    (case lRc => k_is)
    (case cRc => k_is)
    (case kRc => k_is)
    (case iRc => k_is)
    (case aB => k_is)
    (case lB => k_is)
    (case cB => k_is)
    (case kB => k_is)
    (case aT => k_is)
    (case lT => k_is)
    (case cT => k_is)
    (case kT => k_is)
    (case aNm => k_is)
    (case lNm => k_is)
    (case cNm => k_is)
    (case kNm => k_is)
    (case aBd => k_is)
    (case lBd => k_is)
    (case cBd => k_is)
    (case kBd => k_is)
    (case aDu => k_is)
    (case lDu => k_is)
    (case cDu => k_is)
    (case kDu => k_is)
    (case aPu => k_is)
    (case lPu => k_is)
    (case cPu => k_is)
    (case kPu => k_is)
    (case aUk => k_is)
    (case lUk => k_is)
    (case cUk => k_is)
    (case kUk => k_is)
    (case aSa => k_is)
    (case lSa => k_is)
    (case cSa => k_is)
    (case kSa => k_is)
    (case aRe => k_is)
    (case lRe => k_is)
    (case cRe => k_is)
    (case kRe => k_is)
    (case aKe => k_is)
    (case lKe => k_is)
    (case cKe => k_is)
    (case kKe => k_is)
    (case aL => k_is)
    (case lL => k_is)
    (case cL => k_is)
    (case kL => k_is)
    (case opq => k_is)
    (case nsup => k_is)
    (case aEB => k_is)
    (case xEB => k_is)
    (case saEB => k_is)
    (case gaEB => k_is)
    (case ggEB => k_is)
    (case nbEB => k_is)
    (case iEB => k_is)
    (case tEB => k_is)
    (case lEB => k_is)
    (case coEB => k_is)
    (case lkEB => k_is)
    (case vkEBx => rfl)
    (case feEB => decide +kernel)
    (case leEB => k_is)
    (case mrEB => k_is)
    (case upEB => first | ks_is | rfl)
    (case svEB => k_is)
    (case kcEB => k_is)
    (case ebEB => k_is)
    (case tyEB => k_is)
    (case hdEB => k_is)
    (case ssEB => first | rfl | k_is)
    (case aEN => k_is)
    (case xEN => k_is)
    (case saEN => k_is)
    (case gaEN => k_is)
    (case ggEN => k_is)
    (case nbEN => k_is)
    (case iEN => k_is)
    (case tEN => k_is)
    (case lEN => k_is)
    (case coEN => k_is)
    (case lkEN => k_is)
    (case vkENx => rfl)
    (case feEN => decide +kernel)
    (case leEN => k_is)
    (case mrEN => k_is)
    (case upEN => first | ks_is | rfl)
    (case svEN => k_is)
    (case kcEN => k_is)
    (case ebEN => k_is)
    (case tyEN => k_is)
    (case hdEN => k_is)
    (case ssEN => first | rfl | k_is)
    (case aET => k_is)
    (case xET => k_is)
    (case saET => k_is)
    (case gaET => k_is)
    (case ggET => k_is)
    (case nbET => k_is)
    (case iET => k_is)
    (case tET => k_is)
    (case lET => k_is)
    (case coET => k_is)
    (case lkET => k_is)
    (case vkETx => rfl)
    (case feET => decide +kernel)
    (case leET => k_is)
    (case mrET => k_is)
    (case upET => first | ks_is | rfl)
    (case svET => k_is)
    (case kcET => k_is)
    (case ebET => k_is)
    (case tyET => k_is)
    (case hdET => k_is)
    (case ssET => first | rfl | k_is)
    (case aEU => k_is)
    (case xEU => k_is)
    (case saEU => k_is)
    (case gaEU => k_is)
    (case ggEU => k_is)
    (case nbEU => k_is)
    (case iEU => k_is)
    (case tEU => k_is)
    (case lEU => k_is)
    (case coEU => k_is)
    (case lkEU => k_is)
    (case vkEUx => rfl)
    (case feEU => decide +kernel)
    (case leEU => k_is)
    (case mrEU => k_is)
    (case upEU => first | ks_is | rfl)
    (case svEU => k_is)
    (case kcEU => k_is)
    (case ebEU => k_is)
    (case tyEU => k_is)
    (case hdEU => k_is)
    (case ssEU => first | rfl | k_is)
    (case aEM => k_is)
    (case xEM => k_is)
    (case saEM => k_is)
    (case gaEM => k_is)
    (case ggEM => k_is)
    (case nbEM => k_is)
    (case iEM => k_is)
    (case tEM => k_is)
    (case lEM => k_is)
    (case coEM => k_is)
    (case lkEM => k_is)
    (case vkEMx => rfl)
    (case feEM => decide +kernel)
    (case leEM => k_is)
    (case mrEM => k_is)
    (case upEM => first | ks_is | rfl)
    (case svEM => k_is)
    (case kcEM => k_is)
    (case ebEM => k_is)
    (case tyEM => k_is)
    (case hdEM => k_is)
    (case ssEM => first | rfl | k_is)
    (case n_len => k_is)
    (case n_int => k_is)
    (case n_isinstance => k_is)
    (case n_range => k_is)
    (case n_list => k_is)
    (case cPG => first | k_is | rfl | kernel_rfl)
    (case cHD => first | k_is | rfl | kernel_rfl)
    (case cPO => first | k_is | rfl | kernel_rfl)
    (case cSA => k_is)
    (case cNL => k_is)
    (case cMK => first | k_is | rfl | kernel_rfl)
    (case cKP => k_is)
    (case tLT => k_is)
    (case tLG => k_is)
    (case tMO => k_is)
    (case sTN => first | rfl | k_is)
    (case sBN => first | rfl | k_is)
    (case sBT => first | rfl | k_is)
    (case sMN => first | rfl | k_is)
    (case sMT => first | rfl | k_is)
    (case sMB => first | rfl | k_is)
    (case sNM => first | rfl | k_is)
    (case sBM => first | rfl | k_is)
    (case xha => k_is)
    (case xhn => first | k_is | rfl)
    (case xht => first | k_is | rfl)
    (case xhm => k_is)
    (case aLE => k_is)
    (case kt1 => first | k_is | rfl | kernel_rfl)
