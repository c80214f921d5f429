import PyProof.Rows.All
import Wide.All
import OpenK.AllK
import Wide.FinOn
import HandS.ForMost
import HandS.Wide
import HandS.ExcInit
import HandS.FStr
import HandS.Nested
import HandS.TryOnly
import HandS.ExcField
import HandS.WordsExc
import HandS.IsInst
import HandS.Codes
import HandS.Gcd
import HandS.Star
import HandS.ClsMeth
import KE.KTupSum
import HandS.Defaults
import HandS.ExcIs
import KE.KExcSuper
import KE.KMathG
import HandS.FStrTup
import HandS.OwnEq
import HandS.TupLe
import HandS.DeepEq
import PyProof.ReprReads
import PySem.Challenge.RW_rungbounds_k04_ladders_as_values
set_option Elab.async false
set_option linter.all false
set_option maxRecDepth 100000
set_option maxHeartbeats 4000000
/-! Errors whose making calls super().__init__ on a text, then keeps a field. -/
namespace Sup
open PySem PySem.Spec PyProof.Rows L2 NdefX

abbrev mwrap (x : Addr) : Obj := PySem.W.kxs_mw "ValueError.__init__" x

/-- the wrapper of ValueError.__init__ bound to a, called -/
theorem call_wrap {prog : Program} {w : World} {A : Around} {E : Value → Shared → Prop} {h : Heap} {g : Array GenState} {d : Drawn} {t : Nat} {os : OsState}
    {nm q : Str} {C N : Addr} {bs bm : List Value} {hd : Bool} {sn : List Str} {sub : List Value} {ab : Bool} {col : Option Bool} {dd : Option Addr} {k0 k1 k2 k3 k5 : Option Value}
    {u a t0 : Addr} {us : List Value} {Q : Value → Shared → Prop}
    (hC : h.get? C = some (excClassObj nm q C N bs bm hd sn sub ab col dd k0 k1 k2 k3 k5 "ValueError.__new__"))
    (ha : h.get? a = some (PySem.HandSPX.excO C t0)) (hu : h.get? u = some (mwrap a)) (hl : us.length ≤ sizeLine)
    (hq : ∀ h' t1, (∀ b o, b ≠ a → h.get? b = some o → h'.get? b = some o) → h'.get? a = some (PySem.HandSPX.excO C t1) → Q .none ⟨h', g, d, t, os⟩) :
    wpAny (model prog w) A (call (.ref u) us) Q E ⟨h, g, d, t, os⟩ := by
  have FB := F.excBase_ValueError
  refine wpAny_call (codeAny_of_tree ?_)
  show wpAny _ A.in1 (callAny (.ref u) ⟨us, []⟩) _ _ _
  unfold callAny
  refine wpAny_bind (wpAny_load hu ?_)
  have k1' : (Value.type "method-wrapper" == Value.type "method" || Value.type "method-wrapper" == Value.type "builtin_function_or_method" || Value.type "method-wrapper" == Value.type "method-wrapper") = true := by decide
  simp only [mwrap, PySem.W.kxs_mw, k1', if_true]
  refine PySem.W.KFB.if_so (by decide) ?_
  refine wpAny_bind (PySem.W.check_bound_init FB.toExcCallFacts hC ha rfl ?_)
  refine wpAny_bind (wpAny_pure (wpAny_pure ?_))
  refine ⟨plainId_quiet FB.init.plain _, codeAny_builtin FB.initEntry ?_⟩
  exact PySem.W.exc_init_tree (cls := .ref C) (t0 := t0) (dv := none) (c2 := .none) (c3 := .none) (b4 := .bool false) ha hl fun h' k e _ => hq h' _ k e

/-- what the written part says of an own error's class at C and its __init__ at f -/
structure ErrTxt (P : Program) (K : PySem.W.Frag) (mg : Str → Option Value) (C f cda cc : Addr) (qual : Str) (st : Stmt) : Prop where
  oex : OexC K C
  iC : PySem.W.findIn K (.ref C) "__init__" = some (some (.ref f))
  tI : PySem.W.typeIn K (.ref f) = some (.type "function")
  fn : ∃ (oc : Value) (od an : Option Addr) (kV doc pm ct : Value) (osl : Array (Option Value)),
    K.lookup f = some ⟨oc, od, .func (PySem.W.fnX "__init__" qual (defArgs st) (defBody st) (defScope st) [("__class__", cc)] .none kV doc pm an (.ref cda) ct), osl⟩
  code : PySem.W.codeIn K (.ref cda) qual = true
  file : ∃ (o : Obj) (vs : Array Value) (fl : Str) (tf : Tok), K.lookup cda = some o ∧ o.data = .fields vs ∧ vs[2]? = some (.str fl tf) ∧ ((P.main.file : Str) == fl) = true
  cell : ∃ (o : Obj), K.lookup cc = some o ∧ o.data = .cell (some (.ref C))
  self : PySem.W.mroIn K C (.ref C) = some true
  opaque_ : PySem.W.nsIn K cStatics "thirdparty.any" = some none
  up : PySem.W.ks_superIn K C C "__init__" = some (some (.builtin "ValueError.__init__"))
  isVE : PySem.W.subIn K (.ref C) (.type "ValueError") = some true
  top : (P.main.scope.names.lookup ("super" : Str)).isSome = false
  noSup : mg "super" = none

section
variable {X : Cx} {pins : List (Addr × Obj)} {σ : L2.St} {H : Hp} {s : Shared} {a C f cda cc : Addr} {qual : Str} {st : Stmt} {e : Expr} {te : TE} {body : List Stmt} {p0 p1 p2 p3 : Pos} {Q : Hp → Prop} {scope : Scope} {ar : Arg}
theorem super_init (T : ErrTxt X.prog X.K X.mg C f cda cc qual st) (I : Inv X pins σ H s)
    (henv : X.env = PySem.W.envX qual scope X.env.locals f (.ref cda) [("__class__", cc)])
    (hks : scope.names.lookup ("super" : Str) = some .globalImplicit) (hkc : scope.names.lookup ("__class__" : Str) = some .free)
    (hks' : scope.names.lookup ar.arg = some .local)
    (har : ((defArgs st).posonlyargs ++ (defArgs st).args).head? = some ar)
    (h0 : X.N[0]? = some ar.arg) (hs0 : σ[0]? = some (some (V.ref a))) (ha : H a = some (exo a C none))
    (he : PE X e te) (hq : te σ H fun x H1 => [x].length ≤ 1 ∧ H1 a = some (exo a C none) ∧ Q H1) {pl : Sem Bool}
    (hform : eval (.Call (.Attribute (.Call (.Name "super" p0) [] [] p1) "__init__" p2) [e] [] p3) X.env = (do
      let ov ← attributeBase (.Call (.Name "super" p0) [] [] p1) "__init__" X.env (eval (.Call (.Name "super" p0) [] [] p1) X.env)
      standAt p2.atName
      let (g, first) ← holding [ov] (getMethod ov "__init__" pl)
      callWith p3 g first (backTo p3 (starEach [e] X.env)) []) := by rfl)
    (hse : starEach [e] X.env = (false, eval e X.env) :: starEach [] X.env := by rfl) :
    _root_.PySem.wpAt (model X.prog X.w) X.A (.func body X.env) (eval (.Call (.Attribute (.Call (.Name "super" p0) [] [] p1) "__init__" p2) [e] [] p3) X.env)
      (fun _ s' => ∃ H', Inv X pins σ H' s' ∧ Q H') X.xe s := by
  have kS : X.env.kindOf "super" = some .globalImplicit := by rw [henv]; exact hks
  have kC : X.env.kindOf "__class__" = some .free := by rw [henv]; exact hkc
  have kA : X.env.kindOf ar.arg = some .local := by rw [henv]; exact hks'
  have cL : X.env.cells.lookup ("__class__" : Str) = some cc := by rw [henv]; rfl
  have fL : X.env.func = some f := by rw [henv]
  have dL : X.env.code = .ref cda := by rw [henv]
  obtain ⟨nm, q, N, bs, bm, sn, sub, ab, col, dd, k0, k1, k2, k3, k5, hC, hbm⟩ := T.oex.cls
  have hcl : PySem.W.clsIn X.K C = some { name := nm, bases := bs, mro := .ref C :: bm, ns := N, qualname := q, hasDict := true, slotNames := sn, subclasses := sub, abstract := ab, collection := col, hasDel := false } := by
    unfold PySem.W.clsIn; rw [hC] <;> rfl
  obtain ⟨oc, od, an, kV, doc, pm, ct, osl, lf⟩ := T.fn
  obtain ⟨oF, vs, fl, tf, lc, hvf, hv2, hfl⟩ := T.file
  obtain ⟨oc2, lcell, dcell⟩ := T.cell
  obtain ⟨t1, hga⟩ := exo_at I.hok ha
  refine ks_wpAt_MethodCall (o := .Call (.Name "super" p0) [] [] p1) (name := "__init__") (apos := p2) (pos := p3) (args := [e]) (env := X.env) ?_ hform
  refine ks_wpAt_super_base (env := X.env) (cc := cda) (ar := ar) kS kC (by decide) fL (I.kIn _ _ lf) rfl har dL (I.kIn _ _ lc) hvf hv2 hfl T.top ?_
  -- the name super
  obtain ⟨mb, hb1, hb2⟩ := I.mod.blt
  refine PySem.W.ks_loadName_global I.ok.kind kS (Calls.loadGlobal_builtin (v := .type "super") (by rw [I.ok.glob]; exact I.mod.glob.keeps I.bk) T.noSup
    (by rw [I.ok.blt]; exact hb1.keeps I.bk) ((hb2 _ (by decide)).trans (by decide +kernel)) ⟨rfl, ?_⟩)
  -- the cell __class__
  refine wpAny_loadName_free I.ok.kind kC cL (v := .ref C) ⟨_, I.kIn _ _ lcell, dcell⟩ ?_
  -- self
  obtain ⟨m, hn, hlm⟩ := I.loc
  obtain ⟨u, ru, hlook⟩ := hlm 0 ar.arg (V.ref a) h0 hs0 (.inl (by rw [henv]; exact hks'))
  obtain rfl : u = Value.ref a := ru
  have hma : m ar.arg = some (Value.ref a) := by
    rcases hlook with ⟨_, z⟩ | ⟨z, _⟩
    · exact z
    · rw [kA] at z
      rcases z with z | z <;> cases z
  refine wpAny_loadName_local I.ok.kind kA hn hma ?_
  have gC := I.kIn _ _ hC
  refine ks_wpAny_isType_cls gC rfl ⟨rfl, ?_⟩
  obtain ⟨hp, g, d, t, os⟩ := s
  refine ks_wpAny_call_super gC rfl hga rfl (fun c z => by cases z) (PySem.W.looks_mroIn I.kIn T.self) fun h1 e1 k1 => ?_
  have J1 : Inv X pins σ H ⟨h1, g, d, t, os⟩ := I.kept (t' := t) k1
  have I1 : PySem.W.InstAt h1 a (PySem.HandSPX.excO C t1) C none := ⟨k1 _ _ hga, rfl, rfl, trivial⟩
  have hup := T.up
  unfold PySem.W.ks_superIn at hup
  rw [hcl] at hup
  refine PySem.W.kxs_getMethod PySem.W.kxs_ValueError e1 (PySem.W.looks_opaque J1.kIn T.opaque_)
    (fun A' Q' E' s' k q => wpAny_bind ((PySem.W.looks_clsIn J1.kIn hcl) A' _ E' s' k (wpAny_pure q))) rfl J1.kIn hup
    (I1.type.andThen (PySem.W.looks_subIn J1.kIn T.isVE)) (PySem.W.ks_ne J1.kIn I1 hcl) (by decide) ?_
  have gu : (h1.push (mwrap a)).get? h1.objs.size = some (mwrap a) := Heap.get?_push_at rfl rfl
  have J2 : Inv X pins σ H ⟨h1.push (mwrap a), g, d, t + 1, os⟩ := J1.kept (t' := t + 1) fun b o z => Heap.get?_push_of_some _ z
  have J3 : Inv X ((h1.objs.size, mwrap a) :: pins) σ H ⟨h1.push (mwrap a), g, d, t + 1, os⟩ := J2.pins_of fun p hp => by
    rcases List.mem_cons.mp hp with rfl | hp
    · refine ⟨gu, J1.hok.fresh (Nat.le_refl _), fun z => ?_, J1.nofs (Nat.le_refl _), fun v z => by cases z⟩
      have z' : h1.objs.size = X.env.locals := z
      have y := J1.lt
      rw [← z'] at y
      exact absurd y (Nat.lt_irrefl _)
    · exact J2.pin p (List.mem_append_right _ hp)
  show wpAny _ _ (callWith p3 (.ref h1.objs.size) [] (backTo p3 (starEach [e] X.env)) []) _ _ _
  have hq' : tCons te tNil σ H fun xs H1 => xs.length ≤ 1 ∧ H1 a = some (exo a C none) ∧ Q H1 := hq
  rw [hse]
  refine PySem.W.kxs_callWith (i := "ValueError.__init__") (x := a) (by rfl) ?_
  refine Calls.evalArgs_plain ?_
  have pr := (pa_cons he pa_nil hse).run p3 _ _ σ H _ J3 hq'
  rw [hse] at pr
  refine thn pr fun us s2 hh => ?_
  obtain ⟨xs, H2, I2, r2, hx1, ha2, hQ2⟩ := hh
  have gw := (I2.pin (h1.objs.size, mwrap a) (List.mem_append_right _ List.mem_cons_self)).1
  refine ⟨gw, ?_⟩
  obtain ⟨t2, hga2⟩ := exo_at I2.hok ha2
  obtain ⟨hp2, g2, d2, tk2, os2⟩ := s2
  have hul : us.length ≤ sizeLine := by
    rw [← r2.length, sizeLine_eq]
    omega
  refine call_wrap (us := us) (I2.kIn _ _ hC) hga2 gw hul fun h3 t3 k3' e3 => ?_
  have J4 := I2.write (t' := tk2) (x := a) (e := a) (o := exo a C none) (by rw [ha2]; exact True.intro) (.inl rfl) k3' ⟨_, e3⟩ (exo_ok e3)
  have eu : upd H2 a (exo a C none) = H2 := by
    funext b
    by_cases hb : b = a
    · rw [hb, upd_same, ha2]
    · exact upd_ne hb
  rw [eu] at J4
  exact ⟨H2, J4.pins_of fun p hp => J4.pin p (List.mem_append_right _ (List.mem_cons_of_mem _ hp)), hQ2⟩
end

/-! ### the making of an own error, as a promise -/
/-- at a an exception of the class at C is being made; the argument v goes to the field fl -/
def spErr (C : Addr) (fl : Str) (ok : V → Prop) : Sp := fun vs H Q _ => ∃ (a : Addr) (v : V), vs = [.ref a, v] ∧ H a = some (exo a C none) ∧ ok v ∧
  ∀ dx, H dx = none → dx ≠ a → Q .non (upd (upd H dx (exd dx [(fl, v)])) a (exo a C (some dx)))

def okInt : V → Prop := fun v => ∃ i : Int, v = .int i ∧ i.natAbs.log2 < 1920
def okTxt : V → Prop := fun v => ∃ y : Str, v = .str y ∧ (reprText y).length ≤ 10000

section
variable {P : Program} {w : World} {K : PySem.W.Frag} {mg : Str → Option Value} {base : Heap} {C f cda cc : Addr} {qual pn : Str} {st : Stmt} {N : List Str}

abbrev supNF (qual : Str) (st : Stmt) (cda cc : Addr) : NF := ⟨"__init__", qual, defArgs st, defBody st, defScope st, [("__class__", cc)], cda⟩

/-- a def that closes over __class__ alone, entered: its body runs in the frame of NdefX -/
theorem sup_fn {CX : CXT} {sp : Sp} {k : Nat} {ps : List Str} (T : ErrTxt P K mg C f cda cc qual st) (S : NScope N ps ["__class__"] (defScope st))
    (len : ∀ vs H Q E, sp vs H Q E → vs.length = ps.length)
    (hb : ∀ (oc : Value) (od an : Option Addr) (kV doc pm ct : Value) (us : List Value), us.length = ps.length →
      bindArgs (PySem.W.fnX "__init__" qual (defArgs st) (defBody st) (defScope st) [("__class__", cc)] .none kV doc pm an (.ref cda) ct) ⟨us, []⟩ = pure (ps.zip us))
    (hbody : ∀ (A : Around) (outer : List Env) (s : Shared) (H : Hp) (vs : List V) (Q : VK) (E : XK), sp vs H Q E → Room k (ncx CX P w K mg base N (supNF qual st cda cc) f A outer s H E).A →
      ∀ s1, L2.Inv (ncx CX P w K mg base N (supNF qual st cda cc) f A outer s H E) [] (startF N vs [none]) H s1 →
        _root_.PySem.wpAt (model P w) (ncx CX P w K mg base N (supNF qual st cda cc) f A outer s H E).A (.func (defBody st) (ncx CX P w K mg base N (supNF qual st cda cc) f A outer s H E).env)
          (execs (defBody st) (ncx CX P w K mg base N (supNF qual st cda cc) f A outer s H E).env)
          (SP (ncx CX P w K mg base N (supNF qual st cda cc) f A outer s H E) [] { nx := fun _ H' => Q .non H', rt := Q })
          (ncx CX P w K mg base N (supNF qual st cda cc) f A outer s H E).xe s1) :
    ∃ fd, FnOk P w K mg base CX (k + 1) f fd ps sp ∧ Binds K fd ps [] := by
  obtain ⟨oc, od, an, kV, doc, pm, ct, osl, lf⟩ := T.fn
  obtain ⟨oc2, lcell, dcell⟩ := T.cell
  refine ⟨_, ⟨len, fun A outer s H args us vs Q E hr e0 hbd r hsp => ?_⟩, Binds.all (hb oc od an kV doc pm ct)⟩
  have hl := len _ _ _ _ hsp
  have KX : K.In s.heap := e0.mod.kin.keeps fun b o e => (e0.bs b o e).1
  have lim : s.heap.NoLimit := e0.mod.nolimit.keeps fun b o e => (e0.bs b o e).1
  have hH : H cc = none := (e0.bs cc oc2 (e0.mod.kin _ _ lcell)).2
  have CA : CellsAt [("__class__", cc)] ["__class__"] [none] s.heap H := {
    len := rfl
    all := fun y c h => by
      have h' : (if y = ("__class__" : Str) then some cc else none) = some c := by
        by_cases e : y = ("__class__" : Str)
        · subst e; exact h
        · have q : (y == ("__class__" : Str)) = false := by simpa using e
          have z : List.lookup y [(("__class__" : Str), cc)] = none := by simp [List.lookup, q]
          rw [z] at h; cases h
      split at h'
      · cases h'
        exact ⟨hH, some (.ref C), oc2, KX _ _ lcell, dcell⟩
      · cases h'
    inj := fun x y c h1 h2 => by
      have key : ∀ z : Str, List.lookup z [(("__class__" : Str), cc)] = some c → z = "__class__" := fun z hz => by
        by_cases e : z = ("__class__" : Str)
        · exact e
        · have q : (z == ("__class__" : Str)) = false := by simpa using e
          have w : List.lookup z [(("__class__" : Str), cc)] = none := by simp [List.lookup, q]
          rw [w] at hz; cases hz
      exact (key x h1).trans (key y h2).symm
    has := fun i y h => by
      match i, h with
      | 0, h =>
        have e : ("__class__" : Str) = y := Option.some.inj h
        subst e
        exact ⟨cc, by simp [List.lookup], fun v z => by cases z⟩
      | i + 1, h => cases h }
  refine ks_codeAny_call_defAt (binds := ps.zip us) hr.depth (KX _ _ lf) rfl lim (PySem.W.codeRec_of KX T.code) rfl hbd S.nocell (fun ⟨n, _⟩ hy => S.par n (List.of_mem_zip hy).1) (fun h1 hns kp => ?_) S.co S.gen S.kind
  have I : L2.Inv (ncx CX P w K mg base N (supNF qual st cda cc) f A outer s H E) [] (startF N vs [none]) H { s with heap := h1, toks := s.toks + (ps.zip us).length } :=
    inv_startN S hr.hd e0 hl r CA hns kp
  refine _root_.PySem.wpAt_mono (hbody A outer s H vs Q E hsp (hr.deeper _) _ I) (fun fl s' hs => ?_) fun e s' hs => hs
  cases fl with
  | ret u =>
    obtain ⟨v, σ', H', J, rv, q⟩ := hs
    exact ⟨v, H', J.os, J.bare, J.base, J.hok, rv, q⟩
  | next =>
    obtain ⟨σ', H', J, q⟩ := hs
    exact ⟨V.non, H', J.os, J.bare, J.base, J.hok, rfl, q⟩
  | brk =>
    obtain ⟨_, _, _, q⟩ := hs
    exact False.elim q
  | cont =>
    obtain ⟨_, _, _, q⟩ := hs
    exact False.elim q
end

section
variable {P : Program} {w : World} {K : PySem.W.Frag} {mg : Str → Option Value} {base : Heap} {C f cda cc : Addr} {qual pn : Str} {st : Stmt} {N : List Str}

/-- the body: super().__init__(e), then one statement more -/
theorem two_run {X : Cx} {σ : L2.St} {H : Hp} {s : Shared} {a : Addr} {e : Expr} {te : TE} {t2 : TS} {st2 : Stmt} {body : List Stmt} {p0 p1 p2 p3 p4 : Pos} {scope : Scope} {ar : Arg} {D : Ends}
    (T : ErrTxt X.prog X.K X.mg C f cda cc qual st) (I : L2.Inv X [] σ H s)
    (henv : X.env = PySem.W.envX qual scope X.env.locals f (.ref cda) [("__class__", cc)])
    (hks : scope.names.lookup ("super" : Str) = some .globalImplicit) (hkc : scope.names.lookup ("__class__" : Str) = some .free)
    (hka : scope.names.lookup ar.arg = some .local)
    (har : ((defArgs st).posonlyargs ++ (defArgs st).args).head? = some ar)
    (h0 : X.N[0]? = some ar.arg) (hs0 : σ[0]? = some (some (V.ref a))) (ha : H a = some (exo a C none))
    (he : PE X e te) (h2 : PS X st2 t2) (hq : te σ H fun x H1 => [x].length ≤ 1 ∧ H1 a = some (exo a C none) ∧ t2 D σ H1) {pl : Sem Bool}
    (hform : eval (.Call (.Attribute (.Call (.Name "super" p0) [] [] p1) "__init__" p2) [e] [] p3) X.env = (do
      let ov ← attributeBase (.Call (.Name "super" p0) [] [] p1) "__init__" X.env (eval (.Call (.Name "super" p0) [] [] p1) X.env)
      standAt p2.atName
      let (g, first) ← holding [ov] (getMethod ov "__init__" pl)
      callWith p3 g first (backTo p3 (starEach [e] X.env)) []) := by rfl)
    (hse : starEach [e] X.env = (false, eval e X.env) :: starEach [] X.env := by rfl) (hi : interactive X.env = false := by rfl) :
    _root_.PySem.wpAt (model X.prog X.w) X.A (.func body X.env)
      (execs [.Expr (.Call (.Attribute (.Call (.Name "super" p0) [] [] p1) "__init__" p2) [e] [] p3) p4, st2] X.env) (SP X [] D) X.xe s := by
  refine ks_wpAt_execs_cons (ks_wpAt_Expr_any ?_ hi)
  refine _root_.PySem.wpAt_mono (super_init (Q := fun H1 => t2 D σ H1) T I henv hks hkc hka har h0 hs0 ha he hq hform hse) (fun v s' hh => ?_) fun _ _ z => z
  obtain ⟨H1, I1, q⟩ := hh
  exact _root_.PySem.wpAt_of_wpAny ((pss_one h2).run [] s' σ H1 D I1 q)

theorem form_of (env : Env) {p0 p1 p2 p3 q4 : Pos} {ps : List Expr} (hln : (p2.endLine == p3.line) = true) : eval (.Call (.Attribute (.Call (.Name "super" p0) [] [] p1) "__init__" p2) [.JoinedStr ps q4] [] p3) env = (do
      let ov ← attributeBase (.Call (.Name "super" p0) [] [] p1) "__init__" env (eval (.Call (.Name "super" p0) [] [] p1) env)
      standAt p2.atName
      let (g, first) ← holding [ov] (getMethod ov "__init__" (do return (← importBound (.Call (.Name "super" p0) [] [] p1) env).getD true))
      callWith p3 g first (backTo p3 (starEach [.JoinedStr ps q4] env)) []) := by
  have hp : methodCallPos true (.Call (.Name "super" p0) [] [] p1) env p2 p3 = pure p3 := by
    unfold methodCallPos
    rw [hln]
    rfl
  show (do
    let ov ← attributeBase (.Call (.Name "super" p0) [] [] p1) "__init__" env (eval (.Call (.Name "super" p0) [] [] p1) env)
    standAt p2.atName
    let (g, first) ← holding [ov] (getMethod ov "__init__" (do return (← importBound (.Call (.Name "super" p0) [] [] p1) env).getD true))
    let cp ← methodCallPos true (.Call (.Name "super" p0) [] [] p1) env p2 p3
    callWith cp g first (backTo p3 (starEach [.JoinedStr ps q4] env)) []) = _
  rw [hp]
  rfl
theorem lit_small {lit : Str} (hl : lit.length ≤ 1000) : (Str.empty ++ lit).length ≤ 1000 := by
  rw [Str.length_append]
  exact Nat.le_trans (Nat.le_of_eq (Nat.zero_add _)) hl
theorem err_int {lit : Str} {j : Nat} {q1 q2 q3 q4 p0 p1 p2 p3 p4 r1 r2 r3 r4 : Pos} {ar : Arg} (T : ErrTxt P K mg C f cda cc qual st)
    (hbd : defBody st = [.Expr (.Call (.Attribute (.Call (.Name "super" p0) [] [] p1) "__init__" p2) [.JoinedStr [.Constant (.str lit) j q1, .FormattedValue (.Name pn q2) (-1) none q3] q4] [] p3) p4,
      .Assign [.Attribute (.Name "self" r1) pn r2] (.Name pn r3) r4]) (hln : (p2.endLine == p3.line) = true)
    (S : NScope ["self", pn, "__class__"] ["self", pn] ["__class__"] (defScope st))
    (hb : ∀ (oc : Value) (od an : Option Addr) (kV doc pm ct : Value) (us : List Value), us.length = 2 →
      bindArgs (PySem.W.fnX "__init__" qual (defArgs st) (defBody st) (defScope st) [("__class__", cc)] .none kV doc pm an (.ref cda) ct) ⟨us, []⟩ = pure ((["self", pn] : List Str).zip us))
    (hks : (defScope st).names.lookup ("super" : Str) = some .globalImplicit)
    (har : ((defArgs st).posonlyargs ++ (defArgs st).args).head? = some ar) (har2 : ar.arg = "self")
    (hd1 : (pn == ("__debug__" : Str)) = false) (hd2 : (pn == ("__classdict__" : Str)) = false)
    (hlit : lit.length ≤ 1000) (hno : PySem.W.findIn K (.ref C) pn = some none) :
    ∃ fd, FnOk P w K mg base CX0 2 f fd ["self", pn] (spErr C pn okInt) ∧ Binds K fd ["self", pn] [] := by
  refine sup_fn T S (fun vs H Q E h => ?_) hb fun A outer s H vs Q E hsp hroom s1 I => ?_
  · obtain ⟨a, v, rfl, _⟩ := h
    rfl
  · obtain ⟨a, v, rfl, ha, ⟨i, rfl, hi⟩, hQ⟩ := hsp
    have vN : Vis (ncx CX0 P w K mg base ["self", pn, "__class__"] (supNF qual st cda cc) f A outer s H E).env.scope pn := .inl (S.par _ (by simp))
    have vS : Vis (ncx CX0 P w K mg base ["self", pn, "__class__"] (supNF qual st cda cc) f A outer s H E).env.scope "self" := .inl (S.par _ (by simp))
    rw [hbd]
    refine two_run (te := fun σ H Q => tJs [tC (.str lit), tFmt (tVar 1)] Str.empty σ H fun out H1 => Q (.str out) H1) T I rfl hks (S.frk _ (by simp)) (by rw [har2]; exact S.par _ (by simp)) har (by rw [har2]; rfl) rfl ha
      (pe_joined (.cons pe_str (.cons (pe_fmt (pe_var (i := 1) rfl vN hd1 hd2)) .nil)))
      (ps_ost (pe_var (i := 0) rfl vS) (pe_var (i := 1) rfl vN hd1 hd2)) ?_ (form_of _ hln) (by rfl) (by show ((defScope st).kind == _ && _) = false; rw [S.kind]; rfl)
    have e0 := lit_small hlit
    have e1 := int_text_length_le (k := 1920) (by decide) hi
    refine ⟨lit, rfl, by rw [sizeLine_eq]; omega, _, rfl, .inr ⟨i, rfl, hi, Str.ofString (toString i), rfl, ?_, Nat.le_refl _, ha, ?_⟩⟩
    · rw [Str.length_append, PySem.ofString_length, sizeLine_eq]
      omega
    · exact ⟨_, rfl, _, rfl, a, C, rfl, T.oex, hno, .inl ⟨ha, fun dx h1 h2 => hQ dx h1 h2⟩⟩
/-- the same where the argument is a text, shown by its repr -/
theorem err_txt {lit : Str} {j : Nat} {q1 q2 q3 q4 p0 p1 p2 p3 p4 r1 r2 r3 r4 : Pos} {ar : Arg} (T : ErrTxt P K mg C f cda cc qual st)
    (hbd : defBody st = [.Expr (.Call (.Attribute (.Call (.Name "super" p0) [] [] p1) "__init__" p2) [.JoinedStr [.Constant (.str lit) j q1, .FormattedValue (.Name pn q2) 114 none q3] q4] [] p3) p4,
      .Assign [.Attribute (.Name "self" r1) pn r2] (.Name pn r3) r4]) (hln : (p2.endLine == p3.line) = true)
    (S : NScope ["self", pn, "__class__"] ["self", pn] ["__class__"] (defScope st))
    (hb : ∀ (oc : Value) (od an : Option Addr) (kV doc pm ct : Value) (us : List Value), us.length = 2 →
      bindArgs (PySem.W.fnX "__init__" qual (defArgs st) (defBody st) (defScope st) [("__class__", cc)] .none kV doc pm an (.ref cda) ct) ⟨us, []⟩ = pure ((["self", pn] : List Str).zip us))
    (hks : (defScope st).names.lookup ("super" : Str) = some .globalImplicit)
    (har : ((defArgs st).posonlyargs ++ (defArgs st).args).head? = some ar) (har2 : ar.arg = "self")
    (hd1 : (pn == ("__debug__" : Str)) = false) (hd2 : (pn == ("__classdict__" : Str)) = false)
    (hlit : lit.length ≤ 1000) (hno : PySem.W.findIn K (.ref C) pn = some none) :
    ∃ fd, FnOk P w K mg base CX0 2 f fd ["self", pn] (spErr C pn okTxt) ∧ Binds K fd ["self", pn] [] := by
  refine sup_fn T S (fun vs H Q E h => ?_) hb fun A outer s H vs Q E hsp hroom s1 I => ?_
  · obtain ⟨a, v, rfl, _⟩ := h
    rfl
  · obtain ⟨a, v, rfl, ha, ⟨y, rfl, hy⟩, hQ⟩ := hsp
    have vN : Vis (ncx CX0 P w K mg base ["self", pn, "__class__"] (supNF qual st cda cc) f A outer s H E).env.scope pn := .inl (S.par _ (by simp))
    have vS : Vis (ncx CX0 P w K mg base ["self", pn, "__class__"] (supNF qual st cda cc) f A outer s H E).env.scope "self" := .inl (S.par _ (by simp))
    rw [hbd]
    refine two_run (te := fun σ H Q => tJs [tC (.str lit), tFmtR (tVar 1)] Str.empty σ H fun out H1 => Q (.str out) H1) T I rfl hks (S.frk _ (by simp)) (by rw [har2]; exact S.par _ (by simp)) har (by rw [har2]; rfl) rfl ha
      (pe_joined (.cons pe_str (.cons (pe_fmtR (pe_var (i := 1) rfl vN hd1 hd2)) .nil)))
      (ps_ost (pe_var (i := 0) rfl vS) (pe_var (i := 1) rfl vN hd1 hd2)) ?_ (form_of _ hln) (by rfl) (by show ((defScope st).kind == _ && _) = false; rw [S.kind]; rfl)
    have e0 := lit_small hlit
    refine ⟨lit, rfl, by rw [sizeLine_eq]; omega, _, rfl, .inl ⟨y, rfl, by rw [sizeLine_eq]; omega, reprText y, rfl, ?_, Nat.le_refl _, ha, ?_⟩⟩
    · rw [Str.length_append, sizeLine_eq]
      omega
    · exact ⟨_, rfl, _, rfl, a, C, rfl, T.oex, hno, .inl ⟨ha, fun dx h1 h2 => hQ dx h1 h2⟩⟩
end

/-! ### an own error, ready to be raised and caught -/
structure ErrOk (P : Program) (w : World) (K : PySem.W.Frag) (mg : Str → Option Value) (base : Heap) (nm : Str) (C : Addr) (fl : Str) (ok : V → Prop) : Prop where
  oex : OexC K C
  xf : XfC K C
  g : mg nm = some (.ref C)
  no : PySem.W.findIn K (.ref C) fl = some none
  te : PySem.W.exmOne K (.ref C) (.ref C) = some true
  run : ∃ (f : Addr) (fd : FuncData), PySem.W.findIn K (.ref C) "__init__" = some (some (.ref f)) ∧ PySem.W.typeIn K (.ref f) = some (.type "function") ∧
    FnOk P w K mg base CX0 2 f fd ["self", fl] (spErr C fl ok) ∧ Binds K fd ["self", fl] []

section
variable {X : Cx} {nm : Str} {C : Addr} {fl : Str} {ok : V → Prop} {e : Expr} {ta : TA} {p pos pos2 : Pos} {W : WX}
/-- raise nm(e) -/
def tErr (C : Addr) (fl : Str) (ok : V → Prop) (ta : TA) (W : WX) : TS := fun _ σ H => tMkO C (spErr C fl ok) [] ta σ H fun cls d H' => W cls d σ H'
theorem ps_err (R : ErrOk X.prog X.w X.K X.mg X.base nm C fl ok) (hc : X.calm = true) (tk : Takes X W) (hr : Room 3 X.A) (ha : PA X [e] ta) (hg : Gl X nm)
    (hdb : (nm == ("__debug__" : Str)) = false := by decide) (he : starEach [e] X.env = (false, eval e X.env) :: starEach [] X.env := by rfl) (hpl : (backTo pos (starEach [] X.env)).any (·.1) = false := by rfl) :
    PS X (.Raise (some (.Call (.Name nm p) [e] [] pos)) none pos2) (tErr C fl ok ta W) := by
  obtain ⟨f, fd, h1, h2, h3, h4⟩ := R.run
  exact ps_raise hc tk (pmk_oex R.oex h1 h2 h3 hr h4 .nil pass0 hg R.g ha hdb he hpl)
/-- what such a raise asks: the argument is fit, and every way out is met -/
theorem err_way {H1 : Hp} {v : V} {Q : XK} (hv : ok v) (h : ∀ d, H1 d = none → Q (.ref C) (some d) (upd H1 d (.xd [(fl, v)]))) :
    [v].length ≤ 1000 ∧ ∀ a, H1 a = none → spErr C fl ok (.ref a :: ([v] ++ [])) (upd H1 a (exo a C none))
      (fun r H2 => r = .non ∧ ∃ (d : Addr) (fs : List (Str × V)), H2 a = some (exo a C (some d)) ∧ H2 d = some (exd d fs) ∧ H1 d = none ∧ Q (.ref C) (some d) (upd (del H2 a) d (.xd fs))) (fun _ _ _ => False) := by
  refine ⟨by show 1 ≤ 1000; omega, fun a hn => ⟨a, v, rfl, upd_same, hv, fun dx hdx hne => ⟨rfl, dx, _, upd_same, by rw [upd_ne hne, upd_same], ?_, ?_⟩⟩⟩
  · rw [upd_ne hne] at hdx
    exact hdx
  · have hd1 : H1 dx = none := by
      rw [upd_ne hne] at hdx
      exact hdx
    have e : upd (del (upd (upd (upd H1 a (exo a C none)) dx (exd dx [(fl, v)])) a (exo a C (some dx))) a) dx (.xd [(fl, v)]) = upd H1 dx (.xd [(fl, v)]) := by
      funext b
      by_cases hb : b = dx
      · rw [hb, upd_same, upd_same]
      · rw [upd_ne hb, upd_ne hb]
        by_cases hba : b = a
        · rw [hba, del_same, hn]
        · rw [del_ne hba, upd_ne hba, upd_ne hb, upd_ne hba]
    rw [e]
    exact h dx hd1
end
end Sup

/-! Operators, repr and call of instances of own classes. -/
namespace Own
open PySem PySem.Spec PyProof.Rows L2
section
variable {X : Cx} {CX : CXT} {k : Nat} {C g : Addr} {sp : Sp} {E : XK} {pins : List (Addr × Obj)} {σ : L2.St} {H : Hp} {s : Shared}
theorem not_ni {v : V} {u : Value} (r : RelV v u) : u ≠ .notImplemented := fun z => by
  subst z
  cases v <;> first | (cases r; done) | (obtain ⟨_, z⟩ := r; cases z; done) | (obtain ⟨_, z⟩ := r; nomatch z)
theorem back {Q : VK} {u : Value} {s' : Shared} (h : EP X pins σ Q u s') : PySem.W.CmpBack (EP X pins σ Q) u s' := by
  obtain ⟨v, H', I', rv, q⟩ := id h
  have n := not_ni rv
  cases u <;> first | exact h | exact absurd rfl n
/-- a promise of an own method, asked at other surroundings with the same frames -/
theorem run_at {A : Around} {Q : VK} {us : List Value} {vs : List V} (F : FnR X.prog X.w X.K X.mg X.base CX k g sp) (hr : Room k A) (hfr : A.frames = some X.stack) (hx : Passes CX X E) (I : Inv X pins σ H s) (r : Vals vs us) (h : sp vs H Q E) :
    wpAny (model X.prog X.w) A (call (.ref g) us) (EP X pins σ Q) X.xe s := by
  have e0 : Env0 X.prog X.w X.K X.mg X.base A X.stack s H := by
    have e := I.env0
    exact ⟨hfr, e.mod, e.bs, e.bsz, e.funs, e.frf, e.hok, e.bare⟩
  refine wpAny_call (codeAny_mono (F A X.stack s H us vs Q E hr e0 r h) fun r s' hq => ?_)
  cases r with
  | error e => exact hx pins σ H s e s' I hq
  | ok fl =>
    cases fl with
    | ret u => exact I.after hq
    | next => exact False.elim hq
    | brk => exact False.elim hq
    | cont => exact False.elim hq
/-- two instances of the class at C, and what the operator's def promises of them -/
def rOwn (C : Addr) (sp : Sp) (E : XK) : R2 := fun x y H Q => ∃ a b dx dy fs gs, x = .ref a ∧ y = .ref b ∧ H a = some (.ins C dx fs) ∧ H b = some (.ins C dy gs) ∧ sp [.ref a, .ref b] H Q E
theorem op_cmp {op : CmpOp} (hop : ∀ v u, compareOp op v u = richCompare op v u) (F : FnR X.prog X.w X.K X.mg X.base CX k g sp) (hs : PySem.W.findIn X.K (.ref C) (cmpInfo op).2.1 = some (some (.ref g))) (hf : PySem.W.isFn X.K (.ref g) = true)
    (hr : Room k X.A) (hx : Passes CX X E) : OpR X (compareOp op) (rOwn C sp E) := by
  intro pins s σ H x y v u Q I rx ry h
  obtain ⟨a, b, dx, dy, fs, gs, rfl, rfl, ha, hb, hsp⟩ := h
  cases rx
  cases ry
  obtain ⟨mA, J, _⟩ := ins_get I.hok ha
  obtain ⟨mB, J', _⟩ := ins_get I.hok hb
  obtain ⟨od, J, _⟩ := J.look
  obtain ⟨od', J', _⟩ := J'.look
  obtain ⟨m, hF⟩ := I.fr
  rw [hop]
  refine PySem.W.cmp_K (op := op) (tb := .ref C) hr.units0 hF I.ok.mod.kin J J'.type (by simp [PySem.W.notFirst]) hs hf ?_
  exact wpAny_mono (wpAny_call (run_fnR F hr hx I (us := [.ref a, .ref b]) (vs := [.ref a, .ref b]) (.cons rfl (.cons rfl .nil)) hsp)) (fun _ _ z => back z) fun _ _ z => z
theorem op_bin {op : Operator} (hop : ∀ v u : Value, PySem.binaryOp op v u = PySem.binaryOp op v u) (F : FnR X.prog X.w X.K X.mg X.base CX k g sp) (hs : PySem.W.findIn X.K (.ref C) (PySem.dunder op.info.2) = some (some (.ref g))) (hf : PySem.W.isFn X.K (.ref g) = true)
    (hc : PySem.W.selfFirst X.K C = true) (hr : Room k X.A) (hx : Passes CX X E) : OpR X (PySem.binaryOp op) (rOwn C sp E) := by
  intro pins s σ H x y v u Q I rx ry h
  obtain ⟨a, b, dx, dy, fs, gs, rfl, rfl, ha, hb, hsp⟩ := h
  cases rx
  cases ry
  obtain ⟨mA, J, _⟩ := ins_get I.hok ha
  obtain ⟨mB, J', _⟩ := ins_get I.hok hb
  obtain ⟨od, J, _⟩ := J.look
  obtain ⟨od', J', _⟩ := J'.look
  obtain ⟨m, hF⟩ := I.fr
  refine PySem.W.binop_K (op := op) hF I.ok.mod.kin J J'.type hc hs hf ?_
  exact wpAny_mono (wpAny_call (run_fnR F hr hx I (us := [.ref a, .ref b]) (vs := [.ref a, .ref b]) (.cons rfl (.cons rfl .nil)) hsp)) (fun _ _ z => back z) fun _ _ z => z
/-- repr of an instance -/
def rRepr (C : Addr) (sp : Sp) (E : XK) : List V → Hp → VK → Prop := fun xs H Q => ∃ a dx fs, xs = [.ref a] ∧ H a = some (.ins C dx fs) ∧ sp [.ref a] H (fun v H' => ∃ y, v = .str y ∧ Q v H') E
theorem call_repr (F : FnR X.prog X.w X.K X.mg X.base CX k g sp) (hs : PySem.W.findIn X.K (.ref C) "__repr__" = some (some (.ref g))) (hf : PySem.W.isFn X.K (.ref g) = true)
    (hr : Room (k + 1) X.A) (hx : Passes CX X E) : CallR X (.builtin "repr") (rRepr C sp E) := by
  intro pins s σ H xs us Q I r h
  obtain ⟨a, dx, fs, rfl, ha, hsp⟩ := h
  obtain ⟨u, rfl, r1⟩ : ∃ u, us = [u] ∧ RelV (.ref a) u := by
    cases r with
    | cons r1 rr =>
      cases rr
      exact ⟨_, rfl, r1⟩
  cases r1
  obtain ⟨mA, J, _⟩ := ins_get I.hok ha
  obtain ⟨od, J, _⟩ := J.look
  obtain ⟨m, hF⟩ := I.fr
  refine PySem.W.repr_K ?_ hF I.ok.mod.kin J hs hf (wpAny_mono (run_at F ?_ ?_ hx I (us := [.ref a]) (vs := [.ref a]) (.cons rfl .nil) hsp) (fun u s' z => ?_) fun _ _ z => z)
  · have := hr.un
    show X.A.units + 1 < _
    omega
  · exact hr.in1
  · exact I.env0.frames
  · obtain ⟨v, H', I', rv, y, rfl, q⟩ := z
    obtain ⟨t, rfl⟩ := rv
    exact ⟨.str y, H', I', ⟨t, rfl⟩, q⟩
/-! ### != by the own == -/
theorem ifBound_B {M : Model} {A : Around} {Er : Value → Shared → Prop} {s : Shared} {K : PySem.W.Frag} {x C : Addr} {ox : Obj} {od : Option Obj} {name : Str} {id : String} {args : List Value} {Q : Option Value → Shared → Prop} (X : K.In s.heap) (I : PySem.W.InstAt s.heap x ox C od)
    (hs : PySem.W.findIn K (.ref C) name = some (some (.builtin id))) (hb : ∀ self, bindSpecial (.builtin id) self = pure (.builtin id, [self]))
    (h : wpAny M A (call (.builtin id) (.ref x :: args)) (fun v => Q (some v)) Er s) : wpAny M A (callSpecialIfBound? (.ref x) name args) Q Er s := by
  simp only [callSpecialIfBound?, bindSpecialIfBound?]
  refine wpAny_holding (wpAny_bind (wpAny_bind (wpAny_bind (I.type.here ((PySem.W.looks_findIn X hs).here ?_)))))
  refine wpAny_bind (wpAny_askSetting (wpAny_ite ?_))
  have fin : wpAny M A (call (.builtin id) ([.ref x] ++ args) >>= fun v => pure (some v)) Q Er s := wpAny_bind (wpAny_mono h (fun v s' h' => wpAny_pure h') fun _ _ h' => h')
  split
  · exact wpAny_bind ((PySem.W.Looks.of_pure (hb _)).here (wpAny_pure (by exact fin)))
  · exact wpAny_tryCatch (wpAny_bind ((PySem.W.Looks.of_pure (hb _)).here (wpAny_pure (by exact fin))))
def rOwnNe (C : Addr) (sp : Sp) (E : XK) : R2 := fun x y H Q => ∃ a b dx dy fs gs, x = .ref a ∧ y = .ref b ∧ H a = some (.ins C dx fs) ∧ H b = some (.ins C dy gs) ∧ sp [.ref a, .ref b] H (fun v H' => ∃ t, v = .bl t ∧ Q (.bl (!t)) H') E
theorem op_ne (F : FnR X.prog X.w X.K X.mg X.base CX k g sp) (hs : PySem.W.findIn X.K (.ref C) "__eq__" = some (some (.ref g))) (hn : PySem.W.findIn X.K (.ref C) "__ne__" = some (some (.builtin "object.__ne__"))) (hm : PySem.W.mroIn X.K C (.type "object") = some true)
    (hf : PySem.W.isFn X.K (.ref g) = true) (hr : Room (k + 1) X.A) (hx : Passes CX X E) : OpR X (compareOp .NotEq) (rOwnNe C sp E) := by
  intro pins s σ H x y v u Q I rx ry h
  obtain ⟨a, b, dx, dy, fs, gs, rfl, rfl, ha, hb, hsp⟩ := h
  cases rx
  cases ry
  obtain ⟨mA, J, _⟩ := ins_get I.hok ha
  obtain ⟨mB, J', _⟩ := ins_get I.hok hb
  obtain ⟨od, J, _⟩ := J.look
  obtain ⟨od', J', _⟩ := J'.look
  have KI := I.kIn
  have hu1 : X.A.in1.units < cLine := by
    have := hr.un
    show X.A.units + 1 < _
    omega
  have one : wpAny (model X.prog X.w) X.A (tryCompare (.ref a) (cmpInfo .NotEq).2.1 (.ref b)) (fun r s' => ∃ v, r = some v ∧ EP X pins σ Q v s') X.xe s := by
    unfold tryCompare
    refine wpAny_bind (ifBound_B KI J hn PySem.F.cmp_object.ne.bind (wpAny_call (codeAny_call_builtin PySem.F.cmp_object.ne.plain PySem.F.cmpEntry_ne
      (PySem.W.check_slot PySem.F.cmpKind_ne PySem.F.cmpSplit_ne (J.type.andThen (PySem.W.looks_mroIn KI hm)) (PySem.F.cmpArgs_ne _ _) ?_))))
    unfold Builtin.«object.__ne__»
    refine wpAny_bind (m := slotArgs "__ne__" 1 _) (wpAny_pure ?_)
    refine wpAny_bind (m := cRoomFor _ _) (wpAny_cRoomFor hu1 ?_)
    refine wpAny_bind (m := callSpecialIfBound? (.ref a) (Str.ofString "__eq__") _) (PySem.W.ifBound_K KI J hs hf (wpAny_mono (run_at F hr.in1 I.env0.frames hx I (us := [.ref a, .ref b]) (vs := [.ref a, .ref b]) (.cons rfl (.cons rfl .nil)) hsp) (fun u s' z => ?_) fun _ _ z => z))
    obtain ⟨v, H', I', rv, t, rfl, q⟩ := z
    cases rv
    refine wpAny_bind (m := truthy (.bool t)) (wpAny_truthy_bool ?_)
    first
      | exact wpAny_pure (wpAny_pure ⟨_, rfl, .bl (!t), H', I', rfl, q⟩)
      | exact wpAny_pure ⟨_, rfl, .bl (!t), H', I', rfl, q⟩
  show wpAny _ _ (richCompare .NotEq (.ref a) (.ref b)) _ _ _
  unfold richCompare
  simp only [PySem.oneThing_ref]
  refine wpAny_holding (wpAny_bind (wpAny_cRoomFor hr.units0 ?_))
  refine wpAny_bind (J.type.here (wpAny_bind (J'.type.here ?_)))
  rw [if_neg (by simp)]
  refine wpAny_bind (wpAny_pure ?_)
  simp only [Bool.false_eq_true, if_false]
  refine wpAny_bind (wpAny_mono one (fun r s' z => ?_) fun _ _ e => e)
  obtain ⟨v, rfl, hq⟩ := z
  exact wpAny_pure hq
end
/-! ### a def that returns NotImplemented -/
section
variable {P : Program} {w : World} {K : PySem.W.Frag} {mg : Str → Option Value} {base : Heap}
/-- on values of which pre holds the def at f returns NotImplemented and changes nothing -/
def NiOk (P : Program) (w : World) (K : PySem.W.Frag) (mg : Str → Option Value) (base : Heap) (k : Nat) (f : Addr) (pre : List V → Hp → Prop) : Prop :=
  ∀ (A : Around) (outer : List Env) (s : Shared) (H : Hp) (us : List Value) (vs : List V), Room k A → Env0 P w K mg base A outer s H → Vals vs us → pre vs H →
    codeAny (model P w) A (.call (.ref f) ⟨us, []⟩) (fun r s' => r = .ok (.ret .notImplemented) ∧ CE outer P w H s (fun _ H' => H' = H) .none s') s
theorem ni_def {x qual : Str} {st : Stmt} {f : Addr} {fd : FuncData} {N ps : List Str} {k : Nat} {pre : List V → Hp → Prop} {t : Expr} {els rest : List Stmt} {p2 p3 p4 : Pos} (F : Fun K x qual st f fd) (S : FnScope N ps (defScope st)) (hb : Binds K fd ps [])
    (len : ∀ vs H, pre vs H → vs.length = ps.length) (hbd : defBody st = .If t [.Return (some (.Name "NotImplemented" p2)) p3] els p4 :: rest) (hg : (defScope st).names.lookup ("NotImplemented" : Str) = some .globalImplicit) (hm : mg "NotImplemented" = none)
    (htest : ∀ (cdv : Value) (A : Around) (outer : List Env) (s : Shared) (H : Hp) (vs : List V), Room k (A.deeper (envOfC qual (defScope st) s.heap.objs.size f cdv)) → pre vs H →
      ∃ tt, PT (cxOf CX0 P w K mg base N qual (defScope st) f cdv A outer s H (fun _ _ _ => False)).nox t tt ∧ tt (start N vs) H (fun b H' => b = true ∧ H' = H)) :
    NiOk P w K mg base (k + 1) f pre := by
  intro A outer s H us vs hr e0 r hp
  have hl := len _ _ hp
  have hbind := hb s us (e0.mod.kin.keeps fun b o e => (e0.bs b o e).1) (by rw [List.append_nil, ← r.length]; exact hl)
  rw [List.append_nil] at hbind
  obtain ⟨oc, od, kV, doc, pm, an, cdv, ct, osl, rfl, lk, hcd⟩ := F.ex
  have KX : K.In s.heap := e0.mod.kin.keeps fun b o e => (e0.bs b o e).1
  have lim : s.heap.NoLimit := e0.mod.nolimit.keeps fun b o e => (e0.bs b o e).1
  have hkind : ∀ y ∈ ps.zip us, (defScope st).names.lookup y.1 = some .local ∨ ((defScope st).names.lookup y.1 = some .cell ∧ ((cellsFrom (s.heap.objs.size + 1) (defScope st).names []).lookup y.1).isSome = true) := fun ⟨n, v⟩ hy => by
    rcases S.par n (List.of_mem_zip hy).1 with q | q
    · exact .inl q
    · exact .inr ⟨q, PySem.W.cellsFrom_some _ _ _ (.inl q)⟩
  refine codeAny_call_function hr.depth (KX _ _ lk) rfl S.co S.gen rfl (PySem.W.codeRec_of KX hcd) (hbind _ _ _ _ ?_)
  refine wpAny_newFunctionEnv_cells S.kind hkind fun env he s1 x => ?_
  subst he
  refine ⟨lim.keeps x.toInCall.keep, codeAny_func ?_⟩
  obtain ⟨tt, ht, hq⟩ := htest cdv A outer s H vs (hr.deeper _) hp
  have I : L2.Inv (cxOf CX0 P w K mg base N qual (defScope st) f cdv A outer s H (fun _ _ _ => False)) [] (start N vs) H s1 := inv_start S hr.hd e0 hl r x
  rw [hbd]
  refine wpAny_execs_cons (wpAny_If (wpAny_mono (ht.run [] s1 (start N vs) H _ (I.wish _) hq) (fun b s2 h2 => ?_) fun e s' z => False.elim z))
  obtain ⟨H2, I2, rfl, rfl⟩ := h2
  refine wpAny_execs_cons (wpAny_Return_some (ld_blt I2 hg hm (u := .notImplemented) (by decide +kernel) ?_))
  exact ⟨rfl, .non, _, I2.os, I2.bare, I2.base, I2.hok, rfl, rfl⟩
end
section
variable {X : Cx} {CX : CXT} {k : Nat} {C g : Addr} {sp : Sp} {E : XK} {pre : List V → Hp → Prop}
theorem int_eq_ref (a : Int) (t : Tok) (b C dx : Addr) : Meets (Builtin.«int.__eq__» ⟨[.int a t, .ref b], []⟩) (fun _ R s => s.heap.get? b = some (PySem.W.instObj C dx) ∧ R (.ok (.ret Value.notImplemented)) s) :=
  .of_wp fun prog w A R s h => by
    obtain ⟨hp, g, d, tk, os⟩ := s
    obtain ⟨hl, h⟩ := h
    wp_walk using wpAny_load' hl
    exact ⟨_, rfl, h⟩
/-- an instance == a whole number, where the own == declines -/
def rEqI (C : Addr) (pre : List V → Hp → Prop) : R2 := fun x y H Q => ∃ a dx fs i, x = .ref a ∧ y = .int i ∧ H a = some (.ins C dx fs) ∧ pre [.ref a, .int i] H ∧ Q (.bl false) H
theorem op_eqI (N : NiOk X.prog X.w X.K X.mg X.base k g pre) (hs : PySem.W.findIn X.K (.ref C) "__eq__" = some (some (.ref g))) (hf : PySem.W.isFn X.K (.ref g) = true) (hsub : PySem.W.subIn X.K (.type "int") (.ref C) = some false)
    (hr : Room k X.A) : OpR X (compareOp .Eq) (rEqI C pre) := by
  intro pins s σ H x y v u Q I rx ry h
  obtain ⟨a, dx, fs, i, rfl, rfl, ha, hp, q⟩ := h
  cases rx
  obtain ⟨t, rfl⟩ := ry
  obtain ⟨mA, J, _⟩ := ins_get I.hok ha
  obtain ⟨od, J, _⟩ := J.look
  have KI := I.kIn
  show wpAny _ _ (richCompare .Eq (.ref a) (.int i t)) _ _ _
  unfold richCompare
  simp only [PySem.oneThing_ref]
  refine wpAny_holding (wpAny_bind (wpAny_cRoomFor hr.units0 ?_))
  refine wpAny_bind (J.type.here (wpAny_bind ((PySem.W.Looks.of_pure (M := model X.prog X.w) (h := s.heap) (show typeOf (.int i t) = pure (.type "int") from rfl)).here ?_)))
  have hne : (Value.ref C != Value.type "int") = true := by
    have z : (Value.ref C == Value.type "int") = false := Bool.eq_false_iff.mpr fun q => by cases beq_iff_eq.mp q
    show (!(Value.ref C == Value.type "int")) = true
    rw [z]; rfl
  rw [if_pos hne]
  refine wpAny_bind ((PySem.W.looks_subIn KI hsub).here ?_)
  simp only [Bool.false_eq_true, if_false]
  refine wpAny_bind (m := tryCompare (.ref a) _ (.int i t)) ?_
  unfold tryCompare
  have cl : wpAny (model X.prog X.w) X.A (call (.ref g) [.ref a, .int i t]) (fun u s' => u = .notImplemented ∧ L2.Inv X pins σ H s') X.xe s := by
    refine wpAny_call (codeAny_mono (N X.A X.stack s H [.ref a, .int i t] [.ref a, .int i] hr I.env0 (.cons rfl (.cons ⟨t, rfl⟩ .nil)) hp) fun r s' z => ?_)
    obtain ⟨rfl, z⟩ := z
    obtain ⟨v, H', I', rv, e⟩ := I.after z
    rw [e] at I'
    exact ⟨rfl, I'⟩
  refine wpAny_bind (PySem.W.ifBound_K KI J hs hf (wpAny_mono cl (fun u s' z => ?_) fun _ _ z => z))
  obtain ⟨rfl, I'⟩ := z
  refine wpAny_pure ?_
  obtain ⟨mA', J', _⟩ := ins_get I'.hok ha
  obtain ⟨od', J', _⟩ := J'.look
  dsimp only
  refine wpAny_bind (m := tryCompare (.int i t) _ (.ref a)) ?_
  refine wpAny_tryCompare_declines (typeIs_int _ i t) PySem.F.slot_int_eq (call_meets PySem.F.slot_int_eq (typeIs_int _ i t) PySem.F.entry_int_eq (PySem.F.args_int_eq_2 _ _) (int_eq_ref i t a C dx) ⟨J'.at_, rfl, ?_⟩)
  dsimp only
  refine wpAny_bind (wpAny_rule (wpAny_bind (wpAny_isSame_plain (by rfl) (wpAny_pure ?_))))
  have z : (Value.ref a == Value.int i t) = false := Bool.eq_false_iff.mpr fun q => by cases beq_iff_eq.mp q
  rw [z]
  exact ⟨.bl false, H, I', rfl, q⟩
end
/-! ### x(e, ..) and x(), x a local name that holds an instance -/
section
variable {X : Cx} {CX : CXT} {k i : Nat} {C g : Addr} {sp : Sp} {E : XK} {x : Str} {e : Expr} {es : List Expr} {t : TA} {p pos : Pos}
theorem run_ins {pins : List (Addr × Obj)} {σ : L2.St} {H : Hp} {s : Shared} {Q : VK} {a dx : Addr} {fs : List (Str × V)} {us : List Value} {vs : List V} (c : StX.CallO X.K C g) (F : FnR X.prog X.w X.K X.mg X.base CX k g sp) (hr : Room k X.A) (hx : Passes CX X E) (I : L2.Inv X pins σ H s)
    (ha : H a = some (.ins C dx fs)) (r : Vals vs us) (h : sp (V.ref a :: vs) H Q E) : wpAny (model X.prog X.w) X.A (call (.ref a) us) (EP X pins σ Q) X.xe s := by
  obtain ⟨mA, J, _⟩ := ins_get I.hok ha
  obtain ⟨od, J, _⟩ := J.look
  exact wpAny_call (PySem.W.kco_code I.kIn J rfl c.at_ c.fn c.fi (run_fnR (us := .ref a :: us) (vs := .ref a :: vs) F hr hx I (.cons rfl r) h))
def tCallI (i : Nat) (C : Addr) (sp : Sp) (E : XK) (t : TA) : TE := fun σ H Q => ∃ a, σ[i]? = some (some (.ref a)) ∧ t σ H fun vs H1 => (∃ dx fs, H1 a = some (.ins C dx fs)) ∧ sp (V.ref a :: vs) H1 Q E
theorem pe_callI (c : StX.CallO X.K C g) (F : FnR X.prog X.w X.K X.mg X.base CX k g sp) (hr : Room k X.A) (hx : Passes CX X E) (hN : X.N[i]? = some x) (hv : Vis X.env.scope x) (ha : PA X (e :: es) t)
    (hd : (x == ("__debug__" : Str)) = false := by decide) (hcd : (x == ("__classdict__" : Str)) = false := by decide)
    (he : starEach (e :: es) X.env = (false, eval e X.env) :: starEach es X.env := by rfl) (hpl : (backTo pos (starEach es X.env)).any (·.1) = false := by rfl) : PE X (.Call (.Name x p) (e :: es) [] pos) (tCallI i C sp E t) := by
  refine ⟨fun pins s σ H Q I h => ?_⟩
  obtain ⟨a, hs, h⟩ := h
  refine wpAny_Call_Name_kw (thn ((pe_var (pos := p) (i := i) hN hv hd hcd).run pins s σ H (fun v H1 => v = .ref a ∧ H1 = H) I ⟨.ref a, hs, rfl, rfl⟩) fun u s1 ⟨v, H1, I1, r1, ev, eH⟩ => ?_)
  subst ev
  rw [eH] at I1
  cases r1
  refine StX.callO_with (thn (ha.run pos pins s1 σ H _ I1 h) fun us s2 ⟨vs, H2, I2, r, ⟨dx, fs, hi⟩, q2⟩ => ?_) he hpl
  obtain ⟨mA, J, _⟩ := ins_get I2.hok hi
  obtain ⟨od, J, _⟩ := J.look
  exact ⟨⟨C, _, _, J, rfl⟩, run_ins c F hr hx I2 hi r q2⟩
theorem pe_callI0 (c : StX.CallO X.K C g) (F : FnR X.prog X.w X.K X.mg X.base CX k g sp) (hr : Room k X.A) (hx : Passes CX X E) (hN : X.N[i]? = some x) (hv : Vis X.env.scope x)
    (hd : (x == ("__debug__" : Str)) = false := by decide) (hcd : (x == ("__classdict__" : Str)) = false := by decide) : PE X (.Call (.Name x p) [] [] pos) (tCallI i C sp E tNil) := by
  refine ⟨fun pins s σ H Q I h => ?_⟩
  obtain ⟨a, hs, ⟨dx, fs, hi⟩, h⟩ := h
  refine wpAny_Call_Name_kw (thn ((pe_var (pos := p) (i := i) hN hv hd hcd).run pins s σ H (fun v H1 => v = .ref a ∧ H1 = H) I ⟨.ref a, hs, rfl, rfl⟩) fun u s1 ⟨v, H1, I1, r1, ev, eH⟩ => ?_)
  subst ev
  rw [eH] at I1
  cases r1
  obtain ⟨mA, J, _⟩ := ins_get I1.hok hi
  obtain ⟨od, J, _⟩ := J.look
  exact PySem.W.kco_callWith0 (K := X.K) I1.kIn J rfl c.at_ (run_ins (us := []) c F hr hx I1 hi .nil h)
end
end Own

namespace Own
open PySem PySem.Spec PyProof.Rows L2
/-- a promise told of the values as they come -/
theorem fnr_of {P : Program} {w : World} {K : PySem.W.Frag} {mg : Str → Option Value} {base : Heap} {CX : CXT} {k : Nat} {f : Addr} {fd : FuncData} {ps : List Str} {sp : Sp} {dvs : List V} {ds : List Value} (G : FnOk P w K mg base CX k f fd ps sp) (hb : Binds K fd ps ds) (hd : Vals dvs ds) :
    FnR P w K mg base CX k f (fun vs H Q E => sp (vs ++ dvs) H Q E) := fun A outer s H us vs Q E hr e0 r h => by
  have KX : K.In s.heap := e0.mod.kin.keeps fun b o e => (e0.bs b o e).1
  have hl : (us ++ ds).length = ps.length := by
    have e := (r.append hd).length
    rw [G.len _ _ _ _ h] at e
    exact e.symm
  exact G.run A outer s H ⟨us, []⟩ (us ++ ds) (vs ++ dvs) Q E hr e0 (hb s us KX hl) (r.append hd) h
theorem fnr0 {P : Program} {w : World} {K : PySem.W.Frag} {mg : Str → Option Value} {base : Heap} {CX : CXT} {k : Nat} {f : Addr} {fd : FuncData} {ps : List Str} {sp : Sp} (G : FnOk P w K mg base CX k f fd ps sp) (hb : Binds K fd ps []) :
    FnR P w K mg base CX k f sp := (fnr_of G hb .nil).imp fun vs H Q E h => by rw [List.append_nil]; exact h
section
variable {X : Cx} {CX : CXT} {k i : Nat} {C g f : Addr} {sp : Sp} {E : L2.St → XK} {x : Str} {e a b : Expr} {es : List Expr} {t : TA} {ta tb : TE} {p pos : Pos} {fd : FuncData} {ps : List Str} {dvs : List V} {ds : List Value}
theorem run_fnRS {pins : List (Addr × Obj)} {σ : L2.St} {H : Hp} {s : Shared} {Q : VK} {us : List Value} {vs : List V} (F : FnR X.prog X.w X.K X.mg X.base CX k g sp) (hr : Room k X.A) (hx : PassesAt CX X σ (E σ)) (I : L2.Inv X pins σ H s) (r : Vals vs us) (h : sp vs H Q (E σ)) :
    codeAny (model X.prog X.w) X.A (.call (.ref g) ⟨us, []⟩) (fun r s' => match r with | .ok (.ret v) => EP X pins σ Q v s' | .ok _ => False | .error e => X.xe e s') s := by
  refine codeAny_mono (F X.A X.stack s H us vs Q (E σ) hr I.env0 r h) fun r s' hq => ?_
  cases r with
  | error e => exact hx pins H s e s' I hq
  | ok fl =>
    cases fl with
    | ret u => exact I.after hq
    | next => exact False.elim hq
    | brk => exact False.elim hq
    | cont => exact False.elim hq
/-- a + b of two instances of one own class -/
theorem pe_binS {op : Operator} (F : FnR X.prog X.w X.K X.mg X.base CX k g sp) (hs : PySem.W.findIn X.K (.ref C) (PySem.dunder op.info.2) = some (some (.ref g))) (hf : PySem.W.isFn X.K (.ref g) = true) (hc : PySem.W.selfFirst X.K C = true) (hr : Room k X.A)
    (hx : ∀ σ, PassesAt CX X σ (E σ)) (ha : PE X a ta) (hb : PE X b tb) : PE X (.BinOp a op b pos) (fun σ H Q => ta σ H fun x H1 => tb σ H1 fun y H2 => rOwn C sp (E σ) x y H2 Q) := by
  refine ⟨fun pins s σ H Q I h => ?_⟩
  have h' : tOp (fun x y H2 Q => rOwn C sp (E σ) x y H2 Q) ta tb σ H Q := h
  refine wpAny_BinOp (binT ha hb I h' fun v u s2 x y H2 I2 rx ry q => ?_)
  obtain ⟨a, b, dx, dy, fs, gs, rfl, rfl, ha, hb, hsp⟩ := q
  cases rx
  cases ry
  obtain ⟨mA, J, _⟩ := ins_get I2.hok ha
  obtain ⟨mB, J', _⟩ := ins_get I2.hok hb
  obtain ⟨od, J, _⟩ := J.look
  obtain ⟨od', J', _⟩ := J'.look
  obtain ⟨m, hF⟩ := I2.fr
  refine PySem.W.binop_K (op := op) hF I2.ok.mod.kin J J'.type hc hs hf ?_
  exact wpAny_mono (wpAny_call (run_fnRS F hr (hx σ) I2 (us := [.ref a, .ref b]) (vs := [.ref a, .ref b]) (.cons rfl (.cons rfl .nil)) hsp)) (fun _ _ z => back z) fun _ _ z => z
/-- C(e, ..) whose __init__ may raise -/
structure MkS (C : Addr) (sp : Sp) (E : XK) (vs : List V) (H1 : Hp) (Q : VK) : Prop where
  run : ∀ x dx, H1 x = Option.none → H1 dx = Option.none → dx ≠ x → sp (V.ref x :: vs) (upd (upd H1 dx (.own x)) x (.ins C dx [])) (fun v H2 => v = .non ∧ Q (.ref x) H2) E
def tMakeS (C : Addr) (sp : Sp) (E : L2.St → XK) (t : TA) : TE := fun σ H Q => t σ H fun vs H1 => MkS C sp (E σ) vs H1 Q
theorem pe_makeS (M : Mk X.K C f) (F : FnR X.prog X.w X.K X.mg X.base CX k f sp) (hr : Room (k + 1) X.A) (hg : Gl X x) (hm : X.mg x = some (.ref C)) (hx : ∀ σ, PassesAt CX X σ (E σ)) (ha : PA X (e :: es) t) (hdb : (x == ("__debug__" : Str)) = false := by decide)
    (he : starEach (e :: es) X.env = (false, eval e X.env) :: starEach es X.env := by rfl) (hpl : (backTo pos (starEach es X.env)).any (·.1) = false := by rfl) : PE X (.Call (.Name x p) (e :: es) [] pos) (tMakeS C sp E t) := by
  refine ⟨fun pins s σ H Q I h => ?_⟩
  refine wpAny_Call_Name_kw (ld_glob I hg hm ?_ hdb)
  refine PySem.W.callWith_K (h₀ := X.base) I.ok.mod.kin M.kp (thn (ha.run pos pins s σ H _ I h) fun us s1 ⟨vs, H1, I1, r, q⟩ => ⟨I1.kIn, ?_⟩) he hpl
  have hq := q.run (s1.heap.objs.size + 1) s1.heap.objs.size (I1.hok.fresh (Nat.le_succ _)) (I1.hok.fresh (Nat.le_refl _)) (Nat.ne_of_lt (Nat.lt_succ_self _))
  have I2 := Inv.made (C := C) I1
  have r2 : Vals (V.ref (s1.heap.objs.size + 1) :: vs) (Value.ref (s1.heap.objs.size + 1) :: us) := .cons rfl r
  refine wpAny_call (make_map (f := f) I1.kIn M.makes M.init (beq_iff_eq.mp M.fn) (codeAny_mono (F _ X.stack _ _ (Value.ref (s1.heap.objs.size + 1) :: us) _ _ (E σ) (hr.make C us []) (I2.env0.make C us []) r2 hq) fun r s' hq' => ?_))
  cases r with
  | error e => exact hx σ pins _ _ e s' I2 hq'
  | ok fl =>
    cases fl with
    | ret u =>
      obtain ⟨v, H', I3, rv, ev, q3⟩ := I2.after hq'
      subst ev
      exact ⟨rv, ⟨V.ref (s1.heap.objs.size + 1), H', I3, rfl, q3⟩⟩
    | next => exact False.elim hq'
    | brk => exact False.elim hq'
    | cont => exact False.elim hq'
def tCallIS (i : Nat) (C : Addr) (sp : Sp) (E : L2.St → XK) (t : TA) : TE := fun σ H Q => ∃ a, σ[i]? = some (some (.ref a)) ∧ t σ H fun vs H1 => (∃ dx fs, H1 a = some (.ins C dx fs)) ∧ sp (V.ref a :: vs) H1 Q (E σ)
theorem run_insS {pins : List (Addr × Obj)} {σ : L2.St} {H : Hp} {s : Shared} {Q : VK} {a dx : Addr} {fs : List (Str × V)} {us : List Value} {vs : List V} (c : StX.CallO X.K C g) (F : FnR X.prog X.w X.K X.mg X.base CX k g sp) (hr : Room k X.A) (hx : PassesAt CX X σ (E σ)) (I : L2.Inv X pins σ H s)
    (ha : H a = some (.ins C dx fs)) (r : Vals vs us) (h : sp (V.ref a :: vs) H Q (E σ)) : wpAny (model X.prog X.w) X.A (call (.ref a) us) (EP X pins σ Q) X.xe s := by
  obtain ⟨mA, J, _⟩ := ins_get I.hok ha
  obtain ⟨od, J, _⟩ := J.look
  exact wpAny_call (PySem.W.kco_code I.kIn J rfl c.at_ c.fn c.fi (run_fnRS (us := .ref a :: us) (vs := .ref a :: vs) F hr hx I (.cons rfl r) h))
theorem pe_callIS (c : StX.CallO X.K C g) (F : FnR X.prog X.w X.K X.mg X.base CX k g sp) (hr : Room k X.A) (hx : ∀ σ, PassesAt CX X σ (E σ)) (hN : X.N[i]? = some x) (hv : Vis X.env.scope x) (ha : PA X (e :: es) t)
    (hd : (x == ("__debug__" : Str)) = false := by decide) (hcd : (x == ("__classdict__" : Str)) = false := by decide)
    (he : starEach (e :: es) X.env = (false, eval e X.env) :: starEach es X.env := by rfl) (hpl : (backTo pos (starEach es X.env)).any (·.1) = false := by rfl) : PE X (.Call (.Name x p) (e :: es) [] pos) (tCallIS i C sp E t) := by
  refine ⟨fun pins s σ H Q I h => ?_⟩
  obtain ⟨a, hs, h⟩ := h
  refine wpAny_Call_Name_kw (thn ((pe_var (pos := p) (i := i) hN hv hd hcd).run pins s σ H (fun v H1 => v = .ref a ∧ H1 = H) I ⟨.ref a, hs, rfl, rfl⟩) fun u s1 ⟨v, H1, I1, r1, ev, eH⟩ => ?_)
  subst ev
  rw [eH] at I1
  cases r1
  refine StX.callO_with (thn (ha.run pos pins s1 σ H _ I1 h) fun us s2 ⟨vs, H2, I2, r, ⟨dx, fs, hi⟩, q2⟩ => ?_) he hpl
  obtain ⟨mA, J, _⟩ := ins_get I2.hok hi
  obtain ⟨od, J, _⟩ := J.look
  exact ⟨⟨C, _, _, J, rfl⟩, run_insS c F hr (hx σ) I2 hi r q2⟩
theorem pe_callIS0 (c : StX.CallO X.K C g) (F : FnR X.prog X.w X.K X.mg X.base CX k g sp) (hr : Room k X.A) (hx : ∀ σ, PassesAt CX X σ (E σ)) (hN : X.N[i]? = some x) (hv : Vis X.env.scope x)
    (hd : (x == ("__debug__" : Str)) = false := by decide) (hcd : (x == ("__classdict__" : Str)) = false := by decide) : PE X (.Call (.Name x p) [] [] pos) (tCallIS i C sp E tNil) := by
  refine ⟨fun pins s σ H Q I h => ?_⟩
  obtain ⟨a, hs, ⟨dx, fs, hi⟩, h⟩ := h
  refine wpAny_Call_Name_kw (thn ((pe_var (pos := p) (i := i) hN hv hd hcd).run pins s σ H (fun v H1 => v = .ref a ∧ H1 = H) I ⟨.ref a, hs, rfl, rfl⟩) fun u s1 ⟨v, H1, I1, r1, ev, eH⟩ => ?_)
  subst ev
  rw [eH] at I1
  cases r1
  obtain ⟨mA, J, _⟩ := ins_get I1.hok hi
  obtain ⟨od, J, _⟩ := J.look
  exact PySem.W.kco_callWith0 (K := X.K) I1.kIn J rfl c.at_ (run_insS (us := []) c F hr (hx σ) I1 hi .nil h)
end
end Own

namespace Rt
open PySem PySem.Float64
theorem amgm (a b : Nat) : 4 * (a * b) ≤ (a + b) * (a + b) := by
  rcases Nat.le_total a b with c | c
  · obtain ⟨d, rfl⟩ := Nat.exists_eq_add_of_le c
    have e : (a + (a + d)) * (a + (a + d)) = 4 * (a * (a + d)) + d * d := by grind
    omega
  · obtain ⟨d, rfl⟩ := Nat.exists_eq_add_of_le c
    have e : (b + d + b) * (b + d + b) = 4 * ((b + d) * b) + d * d := by grind
    omega
theorem newton_hi (x q y n : Nat) (h1 : n < x * (q + 1)) (h2 : x + q + 1 ≤ 2 * (y + 1)) : n < (y + 1) * (y + 1) := by
  have a : (x + (q + 1)) * (x + (q + 1)) ≤ (2 * (y + 1)) * (2 * (y + 1)) := Nat.mul_le_mul (by omega) (by omega)
  have b := amgm x (q + 1)
  have e : (2 * (y + 1)) * (2 * (y + 1)) = 4 * ((y + 1) * (y + 1)) := by grind
  omega
theorem newton_lo (x q z n t h : Nat) (hx : x = t + h) (ht : t * t ≤ n) (hxn : n < x * x) (hq : x * q ≤ n) (hz : 2 * z + 2 ≤ x + q) (hh : (h * h) * (h * h) ≤ 2 * n) : z * z ≤ n := by
  refine Nat.le_of_not_lt fun c => ?_
  have zt : t < z := by
    refine Nat.lt_of_not_le fun w => ?_
    have := Nat.mul_le_mul w w
    omega
  rcases Nat.lt_or_ge x z with w | w
  · have : x < q := by omega
    have := Nat.mul_le_mul (Nat.le_refl x) (Nat.le_of_lt this)
    omega
  · obtain ⟨d, e⟩ := Nat.exists_eq_add_of_le w
    have dh : d < h := by omega
    have dd : d * d < h * h := Nat.mul_lt_mul'' dh dh
    have k : 2 * x < d * d := by
      obtain ⟨g, eg⟩ : ∃ g, q + d = z + 2 + g := ⟨q + d - (z + 2), by omega⟩
      have e1 : x * (q + d) = x * (z + 2 + g) := by rw [eg]
      have e2 : x * (q + d) = x * q + x * d := Nat.mul_add ..
      have e3 : x * (z + 2 + g) = x * z + 2 * x + x * g := by grind
      have e4 : x * z = z * z + z * d := by rw [e]; grind
      have e5 : x * d = z * d + d * d := by rw [e]; grind
      have e6 : 0 ≤ x * g := Nat.zero_le _
      omega
    have k2 : 2 * x < h * h := by omega
    have k3 : (2 * x) * (2 * x) < (h * h) * (h * h) := Nat.mul_lt_mul'' k2 k2
    have e7 : (2 * x) * (2 * x) = 4 * (x * x) := by grind
    omega
theorem root_small : ∀ n : Nat, n < 8 → rootBelow8 n * rootBelow8 n ≤ n ∧ n < (rootBelow8 n + 1) * (rootBelow8 n + 1) := by decide
theorem root_ok : ∀ (L n : Nat), n.log2 ≤ L → rootByHalves L n * rootByHalves L n ≤ n ∧ n < (rootByHalves L n + 1) * (rootByHalves L n + 1) := by
  intro L
  induction L with
  | zero =>
    intro n h
    refine root_small n ?_
    by_cases h0 : n = 0
    · omega
    · have := (Nat.log2_lt h0 (k := 1)).mp (by omega)
      omega
  | succ L ih =>
    intro n h
    by_cases h8 : n < 8
    · have e : rootByHalves (L + 1) n = rootBelow8 n := by
        unfold rootByHalves
        rw [if_pos h8]
      rw [e]
      exact root_small n h8
    · have e : rootByHalves (L + 1) n = (let k := (n.log2 + 1) / 4; let x := (rootByHalves L (n / 4 ^ k) + 1) * 2 ^ k; let y := (x + n / x) / 2; if y * y > n then y - 1 else y) := by
        rw [rootByHalves, if_neg h8]
      rw [e]
      dsimp only
      have hn0 : n ≠ 0 := by omega
      have hl3 : 3 ≤ n.log2 := (Nat.le_log2 hn0).mpr (by omega)
      have hle : 2 ^ n.log2 ≤ n := Nat.log2_self_le hn0
      generalize hk : (n.log2 + 1) / 4 = k
      have k1 : 1 ≤ k := by omega
      have k4 : 4 * k ≤ n.log2 + 1 := by omega
      have p4 : (4 : Nat) ^ k = 2 ^ k * 2 ^ k := by rw [← Nat.mul_pow]
      have h0 : 0 < (2 : Nat) ^ k := Nat.pow_pos (by decide)
      have h40 : 0 < (4 : Nat) ^ k := Nat.pow_pos (by decide)
      obtain ⟨r1, r2⟩ := ih (n / 4 ^ k) (by
        by_cases hz : n / 4 ^ k = 0
        · rw [hz, Nat.log2_zero]; omega
        · have q1 : n / 4 ^ k < 2 ^ (L + 1) := by
            refine Nat.div_lt_of_lt_mul ?_
            have q2 : n < 2 ^ (n.log2 + 1) := Nat.lt_log2_self
            have q3 : (2 : Nat) ^ (n.log2 + 1) ≤ 4 ^ k * 2 ^ (L + 1) := by
              rw [p4, ← Nat.pow_add, ← Nat.pow_add]
              exact Nat.pow_le_pow_right (by decide) (by omega)
            omega
          have := (Nat.log2_lt hz (k := L + 1)).mpr q1
          omega)
      generalize hr : rootByHalves L (n / 4 ^ k) = r at r1 r2
      generalize hh : (2 : Nat) ^ k = g at h0 p4
      generalize hx : (r + 1) * g = x
      have xt : x = r * g + g := by rw [← hx]; grind
      have tt : (r * g) * (r * g) ≤ n := by
        have a1 : (r * g) * (r * g) = r * r * 4 ^ k := by rw [p4]; grind
        have a2 : r * r * 4 ^ k ≤ n / 4 ^ k * 4 ^ k := Nat.mul_le_mul_right _ r1
        have a3 : n / 4 ^ k * 4 ^ k ≤ n := Nat.div_mul_le_self ..
        omega
      have xn : n < x * x := by
        have a1 : x * x = (r + 1) * (r + 1) * 4 ^ k := by rw [p4, ← hx]; grind
        have a2 : (n / 4 ^ k + 1) * 4 ^ k ≤ (r + 1) * (r + 1) * 4 ^ k := Nat.mul_le_mul_right _ r2
        have a3 := Nat.lt_mul_div_succ n h40
        have a4 : 4 ^ k * (n / 4 ^ k + 1) = (n / 4 ^ k + 1) * 4 ^ k := Nat.mul_comm ..
        omega
      have hg : (g * g) * (g * g) ≤ 2 * n := by
        have a1 : (g * g) * (g * g) = 2 ^ (4 * k) := by
          rw [← hh, ← Nat.pow_add, ← Nat.pow_add]
          congr 1
          omega
        have a2 : (2 : Nat) ^ (4 * k) ≤ 2 ^ (n.log2 + 1) := Nat.pow_le_pow_right (by decide) k4
        have a3 : (2 : Nat) ^ (n.log2 + 1) = 2 * 2 ^ n.log2 := by rw [Nat.pow_succ]; omega
        omega
      have x0 : 0 < x := by
        refine Nat.pos_of_ne_zero fun z => ?_
        rw [z] at xn
        omega
      have hq : x * (n / x) ≤ n := Nat.mul_div_le n x
      have hq2 : n < x * (n / x + 1) := Nat.lt_mul_div_succ n x0
      generalize hqq : n / x = q at hq hq2
      generalize hy : (x + q) / 2 = y
      have hi := newton_hi x q y n hq2 (by omega)
      by_cases c : y * y > n
      · rw [if_pos c]
        have y1 : 1 ≤ y := by
          refine Nat.pos_of_ne_zero fun z => ?_
          rw [z] at c
          omega
        have lo := newton_lo x q (y - 1) n (r * g) g xt tt xn hq (by omega) hg
        refine ⟨lo, ?_⟩
        have e2 : y - 1 + 1 = y := by omega
        rw [e2]
        exact c
      · rw [if_neg c]
        exact ⟨by omega, hi⟩
theorem isqrt_ok (n : Nat) : isqrt n * isqrt n ≤ n ∧ n < (isqrt n + 1) * (isqrt n + 1) := root_ok n.log2 n (Nat.le_refl _)
end Rt

namespace Law
open PySem PySem.Spec PyProof.Rows L2
def top (i : Nat) : Stmt := PySem.Challenge.pw_rungbounds_k04_ladders_as_values.main.body.getD i (.Pass ⟨0, 0, 0, 0⟩)
abbrev sBox : Stmt := top 10
abbrev sTake : Stmt := top 11
abbrev sNum : Stmt := top 12
/-- the box at b: the cells in the list at l, the place, what is left of a great cell, the seed -/
def Box (H : Hp) (b l : Addr) : Prop := ∃ (ns : List Int) (i : Nat) (q s : Int), H b = some (.lst [.ref l, .int i, .int q, .int s]) ∧ H l = some (.lst (ns.map V.int)) ∧ ns.length ≤ 63
theorem Box.ne {H : Hp} {b l : Addr} (B : Box H b l) : l ≠ b := fun z => by
  obtain ⟨ns, i, q, s, h1, h2, _⟩ := B
  rw [z, h1] at h2
  have e := HO.lst.inj (Option.some.inj h2)
  cases ns with
  | nil => cases e
  | cons n ns => cases e
theorem Box.keep {H H' : Hp} {b l : Addr} (B : Box H b l) (k : ∀ c, c = b ∨ c = l → H' c = H c) : Box H' b l := by
  obtain ⟨ns, i, q, s, h1, h2, h3⟩ := B
  exact ⟨ns, i, q, s, (k b (.inl rfl)).trans h1, (k l (.inr rfl)).trans h2, h3⟩
/-- a draw: 0 ≤ r < size; nothing but the box has changed -/
def spTake : Sp := fun vs H Q _ => ∃ (b l : Addr) (n : Int), vs = [.ref b, .int n] ∧ Box H b l ∧ 0 < n ∧ n.natAbs < 2 ^ 8000 ∧
  ∀ (r : Int) (H' : Hp), 0 ≤ r → r < n → Box H' b l → (∀ c, c ≠ b → H' c = H c) → Q (.int r) H'
def spBox (K : PySem.W.Frag) : Sp := fun vs H Q _ => ∃ (a : Addr) (ns : List Int), vs = [.ref a] ∧ SqL K H a (ns.map V.int) ∧ ns.length ≤ 63 ∧
  ∀ (b l : Addr) (H' : Hp), Box H' b l → H b = none → H l = none → Same H H' → Q (.ref b) H'
structure BoxTxt (K : PySem.W.Frag) (mg : Str → Option Value) : Prop where
  len : mg "len" = none
  int : mg "int" = none
section
variable {P : Program} {w : World} {K : PySem.W.Frag} {mg : Str → Option Value} {base : Heap}
theorem scTake : FnScope ["_law_box_here", "_law_size", "_law_cell", "_law_digit"] ["_law_box_here", "_law_size"] (defScope sTake) := ⟨rfl, rfl, rfl, by decide +kernel, rfl, by decide +kernel, by decide +kernel⟩
theorem if_t {c : Bool} {A B : Prop} (hc : c = true) (h : A) : if c = true then A else B := by
  rw [hc]
  exact h
theorem if_f {c : Bool} {A B : Prop} (hc : c = false) (h : B) : if c = true then A else B := by
  rw [hc]
  exact h
theorem pow18 : CPow 10 18 := ⟨by decide, by decide, by decide⟩
theorem at_box {l : Addr} {i q s : Int} : atI [V.ref l, .int i, .int q, .int s] 0 = some (.ref l) ∧ atI [V.ref l, .int i, .int q, .int s] 1 = some (.int i) ∧ atI [V.ref l, .int i, .int q, .int s] 2 = some (.int q) ∧ atI [V.ref l, .int i, .int q, .int s] 3 = some (.int s) := ⟨rfl, rfl, rfl, rfl⟩
theorem ok_take {f : Addr} {fd : FuncData} (F : Fun K "_law_take" "_law_take" sTake f fd) (T : BoxTxt K mg) : FnOk P w K mg base CX0 1 f fd ["_law_box_here", "_law_size"] spTake := by
  refine F.ok scTake (fun vs H Q E h => ?_) (fun cdv A outer s H vs Q E hr h => ?_)
  · obtain ⟨b, l, n, rfl, _⟩ := h
    rfl
  · obtain ⟨b, l, n, rfl, B, hn0, hn1, k⟩ := h
    refine ⟨_, C8.pss_cut (ps_if (PW.pt (pw_and (pt_cmpR op_lt (pe_ix ix_list (pv 0) pe_int (fun _ _ => rfl)) pe_int (nomark _))
          (pw_and1 (pt_cmpR op_lt (pe_ix ix_list (pv 0) pe_int (fun _ _ => rfl)) (pe_callB call_len_seq (by rfl) T.len PySem.boot_len (pa_cons (pe_ix ix_list (pv 0) pe_int (fun _ _ => rfl)) pa_nil)) (nomark _)))))
        (pss_cons (ps_set (i := 2) scTake.nd rfl (Or.inl rfl) (pe_ix ix_list (pe_ix ix_list (pv 0) pe_int (fun _ _ => rfl)) (pe_ix ix_list (pv 0) pe_int (fun _ _ => rfl)) (fun _ _ => rfl)))
        (pss_cons (ps_asg (pe_op op_add (pe_ix ix_list (pv 0) pe_int (fun _ _ => rfl)) pe_int) (pg_sub (pv 0) pe_int set_list))
        (pss_one (ps_if (pt_cmpR op_ge (pv 2) (pe_op op_pow pe_int pe_int) (nomark _))
          (pss_one (ps_asg (pe_op op_sub (pv 2) (pe_op op_pow pe_int pe_int)) (pg_sub (pv 0) pe_int set_list)))
          (pss_one (ps_asg (pe_op op_mod (pe_callTy call_int1 (by rfl) T.int (by decide +kernel) (pa_cons (pe_op op_add (pe_op op_add (pe_op op_mul (pe_ix ix_list (pv 0) pe_int (fun _ _ => rfl)) pe_int) (pe_op op_mul (pv 2) pe_int)) pe_int) pa_nil)) pe_int) (pg_sub (pv 0) pe_int set_list)))))))
        pss_nil)
      (pss_cons (ps_if (pt_cmpR op_gt (pe_ix ix_list (pv 0) pe_int (fun _ _ => rfl)) pe_int (nomark _))
        (pss_cons (ps_set (i := 3) scTake.nd rfl (Or.inl rfl) (pe_op op_mod (pe_callTy call_int1 (by rfl) T.int (by decide +kernel) (pa_cons (pe_ix ix_list (pv 0) pe_int (fun _ _ => rfl)) pa_nil)) (pv 1)))
        (pss_cons (ps_asg (pe_op op_fdivW (pe_ix ix_list (pv 0) pe_int (fun _ _ => rfl)) (pv 1)) (pg_sub (pv 0) pe_int set_list))
        (pss_one (ps_ret (pv 3))))) pss_nil)
      (pss_cons (ps_asg (pe_op op_mod (pe_callTy call_int1 (by rfl) T.int (by decide +kernel) (pa_cons (pe_op op_mul (pe_ix ix_list (pv 0) pe_int (fun _ _ => rfl)) pe_int) pa_nil)) pe_int) (pg_sub (pv 0) pe_int set_list))
      (pss_one (ps_ret (pe_op op_mod (pe_callTy call_int1 (by rfl) T.int (by decide +kernel) (pa_cons (pe_op op_fdiv (pe_ix ix_list (pv 0) pe_int (fun _ _ => rfl)) pe_int) pa_nil)) (pv 1)))))), ?_⟩
    obtain ⟨ns, i, q, sd, hb, hl, h63⟩ := id B
    have hne := B.ne
    have keepB : ∀ {H' : Hp} {i' : Nat} {q' s' : Int}, H' b = some (.lst [.ref l, .int i', .int q', .int s']) → (∀ c, c ≠ b → H' c = H c) → Box H' b l :=
      fun {H' i' q' s'} h1 h2 => ⟨ns, i', q', s', h1, (h2 l hne).trans hl, h63⟩
    refine ⟨fun σ' H' => ∃ (v : Option V) (i' : Nat) (q' s' : Int), σ' = [some (.ref b), some (.int n), v, none] ∧ H' b = some (.lst [.ref l, .int i', .int q', .int s']) ∧ ∀ c, c ≠ b → H' c = H c, ?_, ?_⟩
    · -- a new cell is read, or not
      refine ⟨_, rfl, b, _, _, _, rfl, rfl, SqL.of hb, at_box.2.2.1, _, _, rfl, rfl, _, rfl, ?_⟩
      by_cases c1 : q < 1
      · refine if_t (decide_eq_true c1) ?_
        refine ⟨_, rfl, b, _, _, _, rfl, rfl, SqL.of hb, at_box.2.1, _, rfl, b, _, _, _, rfl, rfl, SqL.of hb, at_box.1, l, _, rfl, .inl (SqL.of hl), _, _, rfl, rfl, _, rfl, ?_⟩
        by_cases c2 : (i : Int) < ((ns.map V.int).length : Int)
        · refine if_t (decide_eq_true c2) ?_
          rw [List.length_map] at c2
          obtain ⟨z, hz⟩ : ∃ z, ns[i]? = some z := ⟨_, List.getElem?_eq_getElem (by omega)⟩
          have hz' : atI (ns.map V.int) (i : Int) = some (V.int z) := atI_nat (by rw [List.getElem?_map, hz]; rfl)
          refine ⟨_, rfl, b, _, _, _, rfl, rfl, SqL.of hb, at_box.1, _, rfl, b, _, _, _, rfl, rfl, SqL.of hb, at_box.2.1, l, _, _, _, rfl, rfl, SqL.of hl, hz', ?_⟩
          refine ⟨_, rfl, b, _, _, _, rfl, rfl, SqL.of hb, at_box.2.1, _, _, rfl, rfl, _, rfl, b, _, _, 1, rfl, rfl, hb, rfl, ?_⟩
          have h1 : ∀ (o : HO), upd H b o b = some o := fun o => upd_same
          have hc : ∀ (o : HO) c, c ≠ b → upd H b o c = H c := fun o c hc => upd_ne hc
          refine ⟨_, rfl, _, _, rfl, rfl, pow18, _, _, rfl, rfl, _, rfl, ?_⟩
          refine ite2 (fun _ => ?_) fun _ => ?_
          · refine ⟨_, rfl, _, _, rfl, rfl, pow18, _, _, rfl, rfl, _, rfl, b, _, _, 2, rfl, rfl, h1 _, rfl, ?_⟩
            exact ⟨some (.int z), i + 1, _, sd, rfl, upd_same, fun c hc' => by rw [upd_ne hc', upd_ne hc']⟩
          · refine ⟨_, rfl, b, _, _, _, rfl, rfl, SqL.of (h1 _), at_box.2.2.2, _, _, rfl, rfl, .inr ⟨by decide, by decide⟩, _, rfl, _, _, rfl, rfl, .inr ⟨by decide, by decide⟩, _, _, rfl, rfl, _, _, rfl, rfl, .inl ⟨_, rfl, _, _, rfl, rfl, (by show (0 : Int) < 2147483647; decide), _, rfl, b, _, _, 3, rfl, rfl, h1 _, rfl, ?_⟩⟩
            exact ⟨some (.int z), i + 1, q, _, rfl, upd_same, fun c hc' => by rw [upd_ne hc', upd_ne hc']⟩
        · refine if_f (decide_eq_false c2) ?_
          exact ⟨none, i, q, sd, rfl, hb, fun _ _ => rfl⟩
      · refine if_f (decide_eq_false c1) ?_
        exact ⟨none, i, q, sd, rfl, hb, fun _ _ => rfl⟩
    · rintro σ' H' ⟨v, i', q', s', rfl, hb', ho⟩
      refine ⟨_, rfl, b, _, _, _, rfl, rfl, SqL.of hb', at_box.2.2.1, _, _, rfl, rfl, _, rfl, ?_⟩
      refine ite2 (fun _ => ?_) fun _ => ?_
      · refine ⟨_, rfl, b, _, _, _, rfl, rfl, SqL.of hb', at_box.2.2.1, .inl ⟨_, rfl, _, rfl, _, _, rfl, rfl, hn0, ?_⟩⟩
        refine ⟨_, rfl, b, _, _, _, rfl, rfl, SqL.of hb', at_box.2.2.1, _, rfl, _, _, rfl, rfl, wide_div hn0 hn1 (by decide) (by decide), _, rfl, b, _, _, 2, rfl, rfl, hb', rfl, _, rfl, ?_⟩
        exact k _ _ (Int.emod_nonneg _ (by omega)) (Int.emod_lt_of_pos _ hn0) (keepB (q' := q' / n) upd_same fun c hc => (upd_ne hc).trans (ho c hc)) fun c hc => (upd_ne hc).trans (ho c hc)
      · refine ⟨_, rfl, b, _, _, _, rfl, rfl, SqL.of hb', at_box.2.2.2, _, _, rfl, rfl, .inr ⟨by decide, by decide⟩, .inl ⟨_, rfl, _, _, rfl, rfl, (by show (0 : Int) < 2147483647; decide), _, rfl, b, _, _, 3, rfl, rfl, hb', rfl, ?_⟩⟩
        refine ⟨_, rfl, b, _, _, _, rfl, rfl, SqL.of upd_same, at_box.2.2.2, _, _, rfl, rfl, ⟨by decide, by decide⟩, .inl ⟨_, rfl, _, rfl, _, _, rfl, rfl, hn0, ?_⟩⟩
        exact k _ _ (Int.emod_nonneg _ (by omega)) (Int.emod_lt_of_pos _ hn0) (keepB upd_same fun c hc => (upd_ne hc).trans (ho c hc)) fun c hc => (upd_ne hc).trans (ho c hc)

theorem cut63 {xs : List V} (h : xs.length ≤ 63) : cutV xs none (some 63) = xs := by
  unfold cutV
  have e0 : HT.sIx xs.length 0 none = 0 := rfl
  have e1 : HT.sIx xs.length xs.length (some 63) = xs.length := by
    unfold HT.sIx
    simp
    omega
  rw [e0, e1, List.drop_zero, Nat.sub_zero, List.take_length]
theorem scBox : FnScope ["_law_script", "_law_cell"] ["_law_script"] (defScope sBox) := ⟨rfl, rfl, rfl, by decide +kernel, rfl, by decide +kernel, by decide +kernel⟩
theorem ok_box {f : Addr} {fd : FuncData} (F : Fun K "_law_box" "_law_box" sBox f fd) (T : BoxTxt K mg) : FnOk P w K mg base CX0 1 f fd ["_law_script"] (spBox K) := by
  refine F.ok scBox (fun vs H Q E h => ?_) (fun cdv A outer s H vs Q E hr h => ?_)
  · obtain ⟨a, ns, rfl, _⟩ := h
    rfl
  · obtain ⟨a, ns, rfl, hS, h63, k⟩ := h
    refine ⟨_, pss_one (ps_ret (pe_lst (pa_cons (pe_lc (own := [("_law_cell", 1)]) (g := gName 1) (tt := tYes) (by rfl) scBox.nd (pi_list (pe_slice sl_list (pv 0) po_none (po_some pe_int)))
        (blkOk_by (own := [("_law_cell", 1)]) (N := ["_law_script", "_law_cell"]) (sc := defScope sBox) (by decide +kernel)) (fun _ _ _ _ _ => pg_name (i := 1) scBox.nd rfl (Or.inl rfl)) (fun _ _ _ _ _ => pts_nil)
        (fun _ _ _ _ _ => pe_callTy call_int1 (by rfl) T.int (by decide +kernel) (pa_cons (pv 1) pa_nil))) (pa_cons pe_int (pa_cons pe_int (pa_cons pe_int pa_nil)))))), ?_⟩
    have e63 : cutV (ns.map V.int) none (some 63) = ns.map V.int := cut63 (by rw [List.length_map]; exact h63)
    refine ⟨_, rfl, 63, rfl, a, _, rfl, hS, fun p hp => ?_⟩
    rw [e63]
    refine ⟨p, rfl, ⟨_, SqL.of upd_same⟩, fun D hD => ?_⟩
    have hpD : p ≠ D := fun z => by
      rw [z, upd_same] at hD
      cases hD
    have hD0 : H D = none := by rw [upd_ne (Ne.symm hpD)] at hD; exact hD
    refine lc_list (K := K) (a := p) (xs := ns.map V.int) (fun i H' => H' D = some (.lst ((ns.take i).map V.int)) ∧ H' p = some (.lst (ns.map V.int)) ∧ ∀ c, c ≠ D → c ≠ p → H' c = H c)
      ⟨upd_same, by rw [upd_ne hpD, upd_same], fun c h1 h2 => by rw [upd_ne h1, upd_ne h2]⟩ (fun i H' _ h => SqL.of h.2.1) ?_ ?_
    · rintro i y H' hi ⟨g1, g2, g3⟩
      obtain ⟨z, hz, rfl⟩ : ∃ z, ns[i]? = some z ∧ y = V.int z := by
        rw [List.getElem?_map] at hi
        cases e : ns[i]? with
        | none =>
          rw [e] at hi
          cases hi
        | some z =>
          rw [e] at hi
          exact ⟨z, rfl, (Option.some.inj hi).symm⟩
      refine ⟨rfl, ?_⟩
      have step : ∃ acc, H' D = some (.lst acc) ∧ acc.length < sizeLine ∧ (upd H' D (.lst (acc ++ [V.int z]))) D = some (.lst ((ns.take (i + 1)).map V.int)) ∧ (upd H' D (.lst (acc ++ [V.int z]))) p = some (.lst (ns.map V.int)) ∧
          ∀ c, c ≠ D → c ≠ p → (upd H' D (.lst (acc ++ [V.int z]))) c = H c := by
        refine ⟨_, g1, ?_, ?_⟩
        · rw [List.length_map, List.length_take]
          exact small1000 (by omega)
        · refine ⟨?_, by rw [upd_ne hpD]; exact g2, fun c h1 h2 => by rw [upd_ne h1]; exact g3 c h1 h2⟩
          rw [upd_same, List.take_succ, hz, Option.toList_some, List.map_append]
          rfl
      exact ⟨V.int z, rfl, .inl ⟨z, rfl, step⟩⟩
    · rintro H' ⟨g1, g2, g3⟩
      rw [List.length_map, List.take_length] at g1
      refine ⟨(by show 4 ≤ sizeLine; decide), fun b hb => ?_⟩
      have hDb : D ≠ b := ne_of_none g1 hb
      have hpb : p ≠ b := ne_of_none g2 hb
      refine k b D _ ⟨ns, 0, 0, 0, upd_same, by rw [upd_ne hDb]; exact g1, h63⟩ (by rw [← g3 b (Ne.symm hDb) (Ne.symm hpb)]; exact hb) hD0 fun c o hc => ?_
      have n1 : c ≠ D := ne_of_none hc hD0
      have n2 : c ≠ p := ne_of_none hc hp
      have n3 : c ≠ b := fun z => by
        rw [z, ← g3 b (Ne.symm hDb) (Ne.symm hpb), hb] at hc
        cases hc
      rw [upd_ne n3, g3 c n1 n2]
      exact hc
theorem scNum : FnScope ["_law_x"] ["_law_x"] (defScope sNum) := ⟨rfl, rfl, rfl, by decide +kernel, rfl, by decide +kernel, by decide +kernel⟩
def spNum : Sp := fun vs H Q _ => ∃ i : Int, vs = [.int i] ∧ Q (.bl true) H
structure NumTxt (mg : Str → Option Value) : Prop where
  isi : mg "isinstance" = none
  int : mg "int" = none
  bool : mg "bool" = none
theorem ok_num {f : Addr} {fd : FuncData} (F : Fun K "_law_number" "_law_number" sNum f fd) (T : NumTxt mg) : FnOk P w K mg base CX0 1 f fd ["_law_x"] spNum := by
  refine F.ok scNum (fun vs H Q E h => ?_) (fun cdv A outer s H vs Q E hr h => ?_)
  · obtain ⟨i, rfl, _⟩ := h
    rfl
  · obtain ⟨i, rfl, k⟩ := h
    refine ⟨_, pss_one (ps_ret (pe_and (pe_callB call_isi (by rfl) T.isi (by decide +kernel) (pa_cons (pv 0) (pa_cons (pe_bltn (v := .ty "int") (by rfl) T.int (by decide +kernel) rfl) pa_nil)))
      (pe_one (pe_not (pe_callB call_isi (by rfl) T.isi (by decide +kernel) (pa_cons (pv 0) (pa_cons (pe_bltn (v := .ty "bool") (by rfl) T.bool (by decide +kernel) rfl) pa_nil))))))), ?_⟩
    refine ⟨_, rfl, V.int i, .ty "int", .type "int", .type "int", true, rfl, .ty _, .base (.int i), by rfl, true, rfl, ?_⟩
    refine if_t rfl ⟨_, rfl, V.int i, .ty "bool", .type "int", .type "bool", false, rfl, .ty _, .base (.int i), by rfl, false, rfl, k⟩
end
end Law

namespace Law
open PySem PySem.Spec PyProof.Rows L2 Sup
/-- the whole part of a root -/
theorem call_isqrt {X : Cx} : CallR X (.builtin "math.isqrt") (fun xs H Q => ∃ i : Int, xs = [.int i] ∧ 0 ≤ i ∧ i.natAbs < 2 ^ 9000 ∧ ∀ r : Int, 0 ≤ r → r * r ≤ i → i < (r + 1) * (r + 1) → Q (.int r) H) := by
  intro pins s σ H xs us Q I r h
  obtain ⟨i, rfl, h0, h9, q⟩ := h
  obtain ⟨u, rfl, t, rfl⟩ := vals1 r
  have e : i.toNat = i.natAbs := by omega
  have hl : i.toNat.log2 ≤ 8999 := by
    rw [e]
    by_cases hz : i.natAbs = 0
    · rw [hz, Nat.log2_zero]
      omega
    · have := (Nat.log2_lt hz (k := 9000)).mpr h9
      omega
  obtain ⟨r1, r2⟩ := Rt.isqrt_ok i.toNat
  have z1 : ((Float64.isqrt i.toNat : Nat) : Int) * ((Float64.isqrt i.toNat : Nat) : Int) ≤ i := by
    have := Int.ofNat_le.mpr r1
    rw [Int.natCast_mul] at this
    omega
  have z2 : i < (((Float64.isqrt i.toNat : Nat) : Int) + 1) * (((Float64.isqrt i.toNat : Nat) : Int) + 1) := by
    have := Int.ofNat_lt.mpr r2
    rw [Int.natCast_mul, Int.natCast_add] at this
    have e1 : ((1 : Nat) : Int) = 1 := rfl
    rw [e1] at this
    omega
  exact call_function_meets PySem.W.MGF.kind_isqrt PySem.W.MGF.plain_isqrt PySem.W.MGF.entry_isqrt (PySem.W.MGF.args_isqrt _) (PySem.W.mg_run_isqrt i t (by omega) (by omega) (by omega)).meets ⟨.int _, H, I.tok _, ⟨_, rfl⟩, q _ (Int.natCast_nonneg _) z1 z2⟩
end Law

namespace Law
open PySem PySem.Spec PyProof.Rows L2 Sup
abbrev sErr : Stmt := inClass (top 3) 0
abbrev sChk : Stmt := top 5
/-- the way out by BadNumber -/
def Bad (C : Addr) (E : XK) (H : Hp) (v : Int) : Prop := ∀ d, H d = none → E (.ref C) (some d) (upd H d (.xd [("value", .int v)]))
def spChk (C : Addr) : Sp := fun vs H Q E => ∃ i : Int, vs = [.int i] ∧ i.natAbs < 2 ^ 1000 ∧ (i < 0 → Bad C E H i) ∧ (0 ≤ i → Q .non H)
theorem log_of {i : Int} {k : Nat} (hk : 0 < k) (h : i.natAbs < 2 ^ k) : i.natAbs.log2 < k := by
  by_cases hz : i.natAbs = 0
  · rw [hz, Nat.log2_zero]
    exact hk
  · exact (Nat.log2_lt hz).mpr h
section
variable {P : Program} {w : World} {K : PySem.W.Frag} {mg : Str → Option Value} {base : Heap} {C : Addr}
theorem scChk : FnScope ["number"] ["number"] (defScope sChk) := ⟨rfl, rfl, rfl, by decide +kernel, rfl, by decide +kernel, by decide +kernel⟩
theorem ok_chk {f : Addr} {fd : FuncData} (F : Fun K "check_not_negative" "check_not_negative" sChk f fd) (R : ErrOk P w K mg base "BadNumber" C "value" okInt) : FnOk P w K mg base (L2.CX P w) 4 f fd ["number"] (spChk C) := by
  refine F.okX scChk (fun vs H Q E h => ?_) (fun cdv A outer s H vs Q E hr h => ?_)
  · obtain ⟨i, rfl, _⟩ := h
    rfl
  · obtain ⟨i, rfl, hi, h1, h2⟩ := h
    refine ⟨_, pss_one (ps_if (pt_cmpR op_lt (pv 0) pe_int (nomark _)) (pss_one (ps_err R rfl (takes_of rfl rfl rfl rfl) hr (pa_cons (pv 0) pa_nil) rfl)) pss_nil), ?_⟩
    refine ⟨_, rfl, _, _, rfl, rfl, _, rfl, ?_⟩
    by_cases c : i < 0
    · refine if_t (decide_eq_true c) ⟨_, rfl, err_way ⟨i, rfl, log_of (by decide) (Nat.lt_of_lt_of_le hi (Nat.pow_le_pow_right (by decide) (by decide)))⟩ (h1 c)⟩
    · exact if_f (decide_eq_false c) (h2 (by omega))
end
def Sz (i : Int) : Prop := i.natAbs < 2 ^ 200
theorem Sz.mul {a b : Int} (ha : a.natAbs < 2 ^ 300) (hb : b.natAbs < 2 ^ 300) : CMulW a b := wide_mul ha hb (by decide) (by decide) (by decide)
theorem Sz.w {a : Int} (ha : Sz a) : a.natAbs < 2 ^ 300 := Nat.lt_of_lt_of_le ha (Nat.pow_le_pow_right (by decide) (by decide))
theorem Sz.t {a : Int} (ha : Sz a) : a.natAbs < 2 ^ 1000 := Nat.lt_of_lt_of_le ha (Nat.pow_le_pow_right (by decide) (by decide))
theorem Sz.of {i : Int} (h : i.natAbs ≤ 10 ^ 42) : Sz i := Nat.lt_of_le_of_lt h (by decide +kernel)
theorem pow_ok {j : Int} (h : 0 ≤ j ∧ j ≤ 1000000) : CPow 10 j := ⟨h.1, h.2, by decide⟩
theorem size_fit {n : Int} (h0 : 0 < n) (h : n ≤ 10 ^ 40) : n.natAbs < 2 ^ 8000 := by
  have h1 : n.natAbs ≤ 10 ^ 40 := by omega
  exact Nat.lt_of_le_of_lt h1 (by decide +kernel)
end Law

namespace Law
open PySem PySem.Spec PyProof.Rows L2 Sup
section
variable {X : Cx} {CX : CXT} {k : Nat} {f : Addr} {sp : Sp} {E : XK} {x : Str} {p pos : Pos} {e : Expr} {es : List Expr} {t : TA}
/-- f(e, ..) of a def that takes its values as they come -/
theorem pe_callR (F : FnR X.prog X.w X.K X.mg X.base CX k f sp) (hr : Room k X.A) (hg : Gl X x) (hm : X.mg x = some (.ref f)) (hk : PySem.W.keepIn X.K (.ref f) = true) (hx : Passes CX X E)
    (ha : PA X (e :: es) t) (hdb : (x == ("__debug__" : Str)) = false := by decide)
    (he : starEach (e :: es) X.env = (false, eval e X.env) :: starEach es X.env := by rfl) (hpl : (backTo pos (starEach es X.env)).any (·.1) = false := by rfl) :
    PE X (.Call (.Name x p) (e :: es) [] pos) (fun σ H Q => t σ H fun vs H1 => sp vs H1 Q E) := by
  refine ⟨fun pins s σ H Q I h => ?_⟩
  refine wpAny_Call_Name_kw (ld_glob I hg hm ?_ hdb)
  refine PySem.W.callWith_K (h₀ := X.base) I.ok.mod.kin hk
    (thn (ha.run pos pins s σ H _ I h) fun us s1 ⟨vs, H1, I1, r, q⟩ => ⟨I1.kIn, ?_⟩) he hpl
  exact wpAny_call (run_fnR F hr hx I1 r q)
theorem pe_callR0 (F : FnR X.prog X.w X.K X.mg X.base CX k f sp) (hr : Room k X.A) (hg : Gl X x) (hm : X.mg x = some (.ref f)) (hk : PySem.W.keepIn X.K (.ref f) = true) (hx : Passes CX X E)
    (hdb : (x == ("__debug__" : Str)) = false := by decide) : PE X (.Call (.Name x p) [] [] pos) (fun σ H Q => sp [] H Q E) := by
  refine ⟨fun pins s σ H Q I h => ?_⟩
  refine wpAny_Call_Name_kw (ld_glob I hg hm ?_ hdb)
  exact PySem.W.callWith_K0 I.kIn hk (wpAny_call (run_fnR (us := []) F hr hx I .nil h))
/-- sum of a tuple of whole numbers -/
theorem cr_sumT (hc : X.calm = true) : CallR X (.builtin "sum") (fun vs H Q => ∃ (a : Addr) (ns : List Int), vs = [V.ref a] ∧ SqT X.K H a (ns.map V.int) ∧ Q (.int ns.sum) H) := by
  intro pins s σ H vs us Q I r h
  obtain ⟨a, ns, rfl, hs, q⟩ := h
  obtain ⟨its, rv, hl, _⟩ := I.tuple hs
  rw [Vals.ref1 r]
  have hi := rv.ints
  obtain ⟨xs, hx⟩ := hi.allInts.items
  have hn : numsOf (intItems xs).toList = ns := by rw [← hx]; exact hi.numsOf
  rw [nums_intItems] at hn
  rw [hx] at hl
  refine PySem.W.ktm_sumG (I.ok.hd hc) hl fun h' tk t' hk => ?_
  rw [preSum_eq, List.take_of_length_le (by simp), hn]
  exact ⟨.int _, H, I.kept hk, ⟨_, rfl⟩, q⟩
end
/-- the way out by BadNumber, from a heap in which all stands as it stood -/
def BadS (C : Addr) (E : XK) (H : Hp) (v : Int) : Prop := ∀ (H' : Hp) (d : Addr), Same H H' → H' d = none → E (.ref C) (some d) (upd H' d (.xd [("value", .int v)]))
/-- the first length that a join refuses -/
def lst (ls : List Int) : Int := if 1 < ls.length then 2 else 0
def refused (ls : List Int) : Option Int := ls.find? fun x => decide (x < lst ls)
def joinLen (ls : List Int) : Int := if ls = [] then 0 else ls.sum - ((ls.length : Int) - 1) * 1
def Small (ls : List Int) : Prop := ls.length ≤ 10 ∧ ∀ x ∈ ls, x.natAbs < 2 ^ 1000
def spJoin (C : Addr) (ls : List Int) (H : Hp) (Q : VK) (E : XK) : Prop := Small ls ∧ (∀ v, refused ls = some v → BadS C E H v) ∧ (refused ls = none → ∀ H', Same H H' → Q (.int (joinLen ls)) H')
def spJoined (C : Addr) : Sp := fun vs H Q E => ∃ ls : List Int, vs = ls.map V.int ∧ spJoin C ls H Q E
/-- the def itself: its parameter is the tuple at p -/
def spJoinT (C : Addr) : Sp := fun vs H Q E => ∃ (p : Addr) (ls : List Int), vs = [.ref p] ∧ H p = some (.tup (ls.map V.int)) ∧ Small ls ∧
  (∀ v, refused ls = some v → Bad C E H v) ∧ (refused ls = none → Q (.int (joinLen ls)) H)
abbrev sJoin : Stmt := top 7
structure OverTxt (K : PySem.W.Frag) (mg : Str → Option Value) (D : Addr) (mc : Value) (u : Value) : Prop where
  g : mg "Ladder" = some (.ref D)
  cr : ClX.CRead K D mc
  cv : ClX.CVal K D mc "OVERLAP" (.int 1) u
  len : mg "len" = none
  sum : mg "sum" = none
section
variable {P : Program} {w : World} {K : PySem.W.Frag} {mg : Str → Option Value} {base : Heap} {C D : Addr} {mc u : Value}
theorem scJoin : FnScope ["lengths", "least", "length"] ["lengths"] (defScope sJoin) := ⟨rfl, rfl, rfl, by decide +kernel, rfl, by decide +kernel, by decide +kernel⟩
theorem find_take {p : Int → Bool} {ls : List Int} {i : Nat} {x : Int} (h : ls[i]? = some x) (hn : (ls.take i).find? p = none) :
    (p x = true → ls.find? p = some x) ∧ (p x = false → (ls.take (i + 1)).find? p = none) := by
  have e : ls = ls.take i ++ x :: ls.drop (i + 1) := by
    obtain ⟨hi, hx⟩ := List.getElem?_eq_some_iff.mp h
    rw [← hx, List.getElem_cons_drop, List.take_append_drop]
  refine ⟨fun hp => ?_, fun hp => ?_⟩
  · rw [e, List.find?_append, hn]
    simp [hp]
  · rw [List.take_succ, h, Option.toList_some, List.find?_append, hn]
    simp [hp]
theorem ok_join {f : Addr} {fd : FuncData} (F : Fun K "joined_length" "joined_length" sJoin f fd) (R : ErrOk P w K mg base "BadNumber" C "value" okInt) (T : OverTxt K mg D mc u)
    (hb : ∀ rest : List Value, bindArgs fd ⟨rest, []⟩ = (newTuple rest >>= fun t => pure [(("lengths" : Str), t)])) : FnR P w K mg base (L2.CX P w) 4 f (spJoined C) := by
  obtain ⟨oc, od, kV, doc, pm, an, cdv, ct, osl, rfl, lk, hcd⟩ := F.ex
  refine (StX.fn_star (ps := []) (pv := "lengths") (sp := spJoinT C) (k := 3) lk hcd scJoin StX.cxUp (fun us rest hl => ?_) fun A outer s H vs Q E hr h => ?_).imp ?_
  · have e : us = [] := List.length_eq_zero_iff.mp hl
    subst e
    exact hb rest
  · obtain ⟨p, ls, rfl, hp, ⟨h10, hsz⟩, h1, h2⟩ := h
    refine ⟨_, (pss_cons (ps_if (pt_not (pt_truth (pv 0) (by intro _; rfl))) (pss_one (ps_ret pe_int)) pss_nil)
      (C8.pss_cut (ps_set (i := 1) scJoin.nd rfl (Or.inl rfl) (pe_ifExp (pt_cmpR op_gt (pe_callB call_len_seq (by rfl) T.len PySem.boot_len (pa_cons (pv 0) pa_nil)) pe_int (nomark _)) (pe_op op_add (ClX.pe_cval (pe_glob (v := .ref D) rfl T.g rfl)) pe_int) pe_int))
      (pss_cons (ps_for (passes_of rfl) rfl (pi_tup (pv 0)) (pg_name (i := 2) scJoin.nd rfl (Or.inl rfl)) (pss_one (ps_if (pt_cmpR op_lt (pv 2) (pv 1) (nomark _)) (pss_one (ps_err R rfl (takes_of rfl rfl rfl rfl) hr (pa_cons (pv 2) pa_nil) rfl)) pss_nil)))
      (pss_one (ps_ret (pe_op op_sub (pe_callB (cr_sumT rfl) (by rfl) T.sum (by decide +kernel) (pa_cons (pv 0) pa_nil)) (pe_op op_mul (pe_op op_sub (pe_callB call_len_seq (by rfl) T.len PySem.boot_len (pa_cons (pv 0) pa_nil)) pe_int) (ClX.pe_cval (pe_glob (v := .ref D) rfl T.g rfl))))))))), ?_⟩
    refine ⟨_, rfl, (!(ls.map V.int).isEmpty), .inr (.inl ⟨_, SqT.of hp, rfl⟩), ?_⟩
    by_cases he : ls = []
    · subst he
      exact if_t rfl (h2 rfl)
    · have hne : (ls.map V.int).isEmpty = false := by
        cases ls with
        | nil => exact absurd rfl he
        | cons a r => rfl
      refine if_f (by rw [hne]; rfl) ?_
      have eL : (((ls.map V.int).length : Nat) : Int) = (ls.length : Int) := by rw [List.length_map]
      refine ⟨fun σ' H' => H = H' ∧ σ' = [some (V.ref p), some (V.int (lst ls)), none], ?_, ?_⟩
      · refine ⟨_, rfl, p, _, rfl, .inr (SqT.of hp), _, _, rfl, rfl, _, rfl, ?_⟩
        rw [eL]
        by_cases c1 : (1 : Int) < (ls.length : Int)
        · refine if_t (decide_eq_true c1) ⟨D, mc, .int 1, u, rfl, T.cr, T.cv, _, _, rfl, rfl, rfl, ?_⟩
          unfold lst
          rw [if_pos (by omega)]
          rfl
        · refine if_f (decide_eq_false c1) ⟨rfl, ?_⟩
          unfold lst
          rw [if_neg (by omega)]
          rfl
      rintro σ' H' ⟨rfl, rfl⟩
      refine ⟨_, rfl, p, rfl, ⟨_, SqT.of hp⟩, for_tup (K := K) (a := p) (xs := ls.map V.int) (fun i σ' H' => H = H' ∧ (∃ v2 : Option V, σ' = [some (V.ref p), some (V.int (lst ls)), v2]) ∧ (ls.take i).find? (fun y => decide (y < lst ls)) = none)
        ⟨rfl, ⟨none, rfl⟩, rfl⟩ (fun i σ' H' _ h => by rw [← h.1]; exact SqT.of hp) ?_ ?_⟩
      · rintro i y σ' H' hi ⟨rfl, ⟨v2, rfl⟩, hf⟩
        obtain ⟨z, hz, rfl⟩ : ∃ z, ls[i]? = some z ∧ y = V.int z := by
          rw [List.getElem?_map] at hi
          cases e : ls[i]? with
          | none =>
            rw [e] at hi
            cases hi
          | some z =>
            rw [e] at hi
            exact ⟨z, rfl, (Option.some.inj hi).symm⟩
        have ft := find_take hz hf
        refine ⟨_, rfl, _, rfl, _, _, rfl, rfl, _, rfl, ?_⟩
        by_cases c : z < lst ls
        · exact if_t (decide_eq_true c) ⟨_, rfl, err_way ⟨z, rfl, log_of (by decide) (Nat.lt_of_lt_of_le (hsz z (List.mem_of_getElem? hz)) (Nat.pow_le_pow_right (by decide) (by decide)))⟩ (h1 z (ft.1 (decide_eq_true c)))⟩
        · exact if_f (decide_eq_false c) ⟨rfl, ⟨_, rfl⟩, ft.2 (decide_eq_false c)⟩
      · rintro σ' H' ⟨rfl, ⟨v2, rfl⟩, hf⟩
        rw [List.length_map, List.take_length] at hf
        refine ⟨_, rfl, p, ls, rfl, SqT.of hp, _, rfl, p, _, rfl, .inr (SqT.of hp), _, _, rfl, rfl, D, mc, .int 1, u, rfl, T.cr, T.cv, _, _, rfl, rfl, .inr ⟨by decide, by decide⟩, _, _, rfl, rfl, ?_⟩
        have k := h2 hf
        unfold joinLen at k
        rw [if_neg he] at k
        rw [eL]
        exact k
  · rintro vs H Q E ⟨ls, rfl, ⟨h10, hsz⟩, h1, h2⟩
    refine ⟨[], ls.map V.int, rfl, rfl, by rw [List.length_map, sizeLine_eq]; omega, fun p hp => ⟨p, ls, rfl, upd_same, ⟨h10, hsz⟩, fun v hv d hd => ?_, fun hn => h2 hn _ fun b o e => by rw [upd_ne (ne_of_none e hp)]; exact e⟩⟩
    exact h1 v hv _ d (fun b o e => by rw [upd_ne (ne_of_none e hp)]; exact e) hd
end
end Law

namespace Law
open PySem PySem.Spec PyProof.Rows L2 Sup
abbrev sReach : Stmt := top 6
def ReachR (L f r : Int) : Prop := (L < f → r = -1) ∧ (f ≤ L → 0 ≤ r ∧ r * r ≤ L * L - f * f ∧ L * L - f * f < (r + 1) * (r + 1))
def spReach (C : Addr) : Sp := fun vs H Q E => ∃ L f : Int, vs = [.int L, .int f] ∧ Sz L ∧ Sz f ∧ (L < 0 → Bad C E H L) ∧ (0 ≤ L → f < 0 → Bad C E H f) ∧ (0 ≤ L → 0 ≤ f → ∀ r, ReachR L f r → Q (.int r) H)
section
variable {P : Program} {w : World} {K : PySem.W.Frag} {mg : Str → Option Value} {base : Heap} {C : Addr}
structure Calls_ (mg : Str → Option Value) (fK fF : Addr) : Prop where
  chk : mg "check_not_negative" = some (.ref fK)
  reach : mg "reach" = some (.ref fF)
  sq : mg "isqrt" = some (.builtin "math.isqrt")
theorem scReach : FnScope ["length", "foot"] ["length", "foot"] (defScope sReach) := ⟨rfl, rfl, rfl, by decide +kernel, rfl, by decide +kernel, by decide +kernel⟩
theorem ok_reach {f fK fF : Addr} {fd fdK : FuncData} (F : FunD K "reach" "reach" (defArgs sReach) (defBody sReach) (defScope sReach) [.int 0] [] f fd) (R : ErrOk P w K mg base "BadNumber" C "value" okInt)
    (FK : Fun K "check_not_negative" "check_not_negative" sChk fK fdK) (bK : Binds K fdK ["number"] []) (T : Calls_ mg fK fF) : FnOk P w K mg base (L2.CX P w) 5 f fd ["length", "foot"] (spReach C) := by
  have GK : FnOk P w K mg base (L2.CX P w) 4 fK fdK ["number"] (spChk C) := ok_chk FK R
  refine F.ok scReach (fun vs H Q E h => ?_) (fun cdv A outer s H vs Q E hr h => ?_)
  · obtain ⟨L, h, rfl, _⟩ := h
    rfl
  · obtain ⟨L, h, rfl, hL, hh, h1, h2, h3⟩ := h
    refine ⟨_, (pss_cons (ps_expr (pe_call (E := E) GK hr rfl T.chk FK.kp bK .nil (passes_call (takes_of rfl rfl rfl rfl) fun _ _ _ _ z => z) (pa_cons (pv 0) pa_nil)))
      (pss_cons (ps_expr (pe_call (E := E) GK hr rfl T.chk FK.kp bK .nil (passes_call (takes_of rfl rfl rfl rfl) fun _ _ _ _ z => z) (pa_cons (pv 1) pa_nil)))
      (pss_cons (ps_if (pt_cmpR op_gt (pv 1) (pv 0) (nomark _)) (pss_one (ps_ret (pe_un un_neg pe_int))) pss_nil)
      (pss_one (ps_ret (pe_callBfun call_isqrt rfl T.sq (pa_cons (pe_op op_sub (pe_op op_mulW (pv 0) (pv 0)) (pe_op op_mulW (pv 1) (pv 1))) pa_nil))))))), ?_⟩
    refine ⟨_, rfl, L, rfl, hL.t, fun c => h1 c, fun c0 => ?_⟩
    refine ⟨_, rfl, h, rfl, hh.t, fun c => h2 c0 c, fun d0 => ?_⟩
    have k := h3 c0 d0
    refine ⟨_, rfl, _, rfl, _, _, rfl, rfl, _, rfl, ?_⟩
    by_cases c : L < h
    · exact if_t (decide_eq_true c) ⟨_, rfl, k (-1) ⟨fun _ => rfl, fun z => by omega⟩⟩
    · refine if_f (decide_eq_false c) ?_
      have hle : h * h ≤ L * L := Int.mul_le_mul (by omega) (by omega) d0 c0
      have hb : (L * L).natAbs < 2 ^ 400 := wide_lt (a := 200) (b := 200) hL hL
      have hp : (2 : Nat) ^ 400 ≤ 2 ^ 9000 := Nat.pow_le_pow_right (by decide) (by decide)
      have h5 : 0 ≤ h * h := Int.mul_nonneg d0 d0
      refine ⟨_, rfl, _, rfl, _, _, rfl, rfl, Sz.mul hL.w hL.w, _, rfl, _, rfl, _, _, rfl, rfl, Sz.mul hh.w hh.w, _, _, rfl, rfl, _, rfl, by omega, ?_, fun r r0 r1 r2 => k r ⟨fun z => by omega, fun _ => ⟨r0, r1, r2⟩⟩⟩
      generalize (2 : Nat) ^ 9000 = big at hp ⊢
      generalize (2 : Nat) ^ 400 = mid at hp hb
      generalize L * L = a at *
      generalize h * h = b at *
      omega
end
end Law

namespace Law
open PySem PySem.Spec PyProof.Rows L2 Sup
abbrev sInit : Stmt := inClass (top 8) 1
abbrev sAdd : Stmt := inClass (top 8) 2
abbrev sEq : Stmt := inClass (top 8) 3
abbrev sLt : Stmt := inClass (top 8) 4
abbrev sRepr : Stmt := inClass (top 8) 5
abbrev sCallL : Stmt := inClass (top 8) 6
theorem passS {X : Cx} {CX : CXT} {E : XK} (h : Passes CX X E) : ∀ σ, PassesAt CX X σ E := fun σ pins H s e s' I c => h pins σ H s e s' I c
theorem upd_upd {H : Hp} {a : Addr} {o o' : HO} : upd (upd H a o) a o' = upd H a o' := by
  funext b
  by_cases hb : b = a
  · rw [hb, upd_same, upd_same]
  · rw [upd_ne hb, upd_ne hb, upd_ne hb]
/-- a ladder of the class at CL -/
def Lad (CL : Addr) (H : Hp) (x : Addr) (L p : Int) : Prop := ∃ dx fs, H x = some (.ins CL dx fs) ∧ fs.lookup ("length" : Str) = some (V.int L) ∧ fs.lookup ("parts" : Str) = some (V.int p)
theorem Lad.same {CL : Addr} {H H' : Hp} {x : Addr} {L p : Int} (h : Lad CL H x L p) (s : Same H H') : Lad CL H' x L p := by
  obtain ⟨dx, fs, h1, h2⟩ := h
  exact ⟨dx, fs, s _ _ h1, h2⟩
def ladTxt (L p : Int) : Str := ((((Str.empty ++ ("Ladder(" : Str)) ++ Str.ofString (toString L)) ++ (", " : Str)) ++ Str.ofString (toString p)) ++ (")" : Str)
/-- what of the class the text tells -/
structure LadTxt (K : PySem.W.Frag) (mg : Str → Option Value) (CL fK fR fJ : Addr) : Prop where
  lad : mg "Ladder" = some (.ref CL)
  chk : mg "check_not_negative" = some (.ref fK)
  reach : mg "reach" = some (.ref fR)
  join : mg "joined_length" = some (.ref fJ)
  isi : mg "isinstance" = none
  cl : Cls K CL
  nL : NoAttr K CL "length"
  nP : NoAttr K CL "parts"
  ha : PySem.W.findIn K (.ref CL) "__class__" = some (some (.builtin "object.__class__"))
  hn : PySem.W.specialIn K (.builtin "object.__class__") "__get__" = some (some (.builtin "getset_descriptor.__get__"))
  ht : PySem.W.takesIn K (.builtin "object.__class__") = some true
  hm : PySem.W.mroIn K CL (.type "object") = some true
def spInit (CE CL : Addr) : Sp := fun vs H Q E => ∃ (x : Addr) (L p : Int) (dx : Addr), vs = [.ref x, .int L, .int p] ∧ H x = some (.ins CL dx []) ∧ L.natAbs < 2 ^ 1000 ∧ (L < 0 → BadS CE E H L) ∧
  (0 ≤ L → ∀ fs, fs.lookup ("length" : Str) = some (V.int L) → fs.lookup ("parts" : Str) = some (V.int p) → Q .non (upd H x (.ins CL dx fs)))
def spInit1 (CE CL : Addr) : Sp := fun vs H Q E => spInit CE CL (vs ++ [.int 1]) H Q E
theorem mk_lad {CE CL : Addr} {L p : Int} {H1 : Hp} {Q : VK} {E : XK} (hL : L.natAbs < 2 ^ 1000) (h1 : L < 0 → BadS CE E H1 L) (h2 : 0 ≤ L → ∀ x H2, H1 x = none → Same H1 H2 → Lad CL H2 x L p → Q (.ref x) H2) :
    Own.MkS CL (spInit CE CL) E [.int L, .int p] H1 Q := ⟨fun x dx hx hdx hne => by
  have S : Same H1 (upd (upd H1 dx (.own x)) x (.ins CL dx [])) := fun b o e => by
    rw [upd_ne (ne_of_none e hx), upd_ne (ne_of_none e hdx)]
    exact e
  refine ⟨x, L, p, dx, rfl, upd_same, hL, fun c H' d s hd => h1 c H' d (fun b o e => s _ _ (S _ _ e)) hd, fun c fs l1 l2 => ⟨rfl, ?_⟩⟩
  rw [upd_upd]
  refine h2 c x _ hx (fun b o e => ?_) ⟨dx, fs, upd_same, l1, l2⟩
  rw [upd_ne (ne_of_none e hx), upd_ne (ne_of_none e hdx)]
  exact e⟩
theorem mk_lad1 {CE CL : Addr} {L : Int} {H1 : Hp} {Q : VK} {E : XK} (hL : L.natAbs < 2 ^ 1000) (h1 : L < 0 → BadS CE E H1 L) (h2 : 0 ≤ L → ∀ x H2, H1 x = none → Same H1 H2 → Lad CL H2 x L 1 → Q (.ref x) H2) :
    Own.MkS CL (spInit1 CE CL) E [.int L] H1 Q := ⟨(mk_lad hL h1 h2).run⟩
def spAdd (CE CL : Addr) : Sp := fun vs H Q E => ∃ (a b : Addr) (La Lb pa pb : Int), vs = [.ref a, .ref b] ∧ Lad CL H a La pa ∧ Lad CL H b Lb pb ∧ 0 ≤ La ∧ 0 ≤ Lb ∧ La.natAbs < 2 ^ 900 ∧ Lb.natAbs < 2 ^ 900 ∧
  (∀ v, refused [La, Lb] = some v → BadS CE E H v) ∧ (refused [La, Lb] = none → ∀ x H', H x = none → Same H H' → Lad CL H' x (La + Lb - 1) (pa + pb) → Q (.ref x) H')
def spEqL (CL : Addr) : Sp := fun vs H Q _ => ∃ (a b : Addr) (La Lb pa pb : Int), vs = [.ref a, .ref b] ∧ Lad CL H a La pa ∧ Lad CL H b Lb pb ∧ Q (.bl (decide (La = Lb))) H
def spLtL (CL : Addr) : Sp := fun vs H Q _ => ∃ (a b : Addr) (La Lb pa pb : Int), vs = [.ref a, .ref b] ∧ Lad CL H a La pa ∧ Lad CL H b Lb pb ∧ Q (.bl (decide (La < Lb))) H
def spRepr (CL : Addr) : Sp := fun vs H Q _ => ∃ (a : Addr) (L p : Int), vs = [.ref a] ∧ Lad CL H a L p ∧ L.natAbs < 2 ^ 1000 ∧ p.natAbs < 2 ^ 1000 ∧ Q (.str (ladTxt L p)) H
def spCallL (CE CL : Addr) : Sp := fun vs H Q E => ∃ (a : Addr) (L p f : Int), vs = [.ref a, .int f] ∧ Lad CL H a L p ∧ Sz L ∧ Sz f ∧ 0 ≤ L ∧ (f < 0 → BadS CE E H f) ∧ (0 ≤ f → ∀ r, ReachR L f r → Q (.int r) H)
def preI (CL : Addr) : List V → Hp → Prop := fun vs H => ∃ (a dx : Addr) (fs : List (Str × V)) (i : Int), vs = [.ref a, .int i] ∧ H a = some (.ins CL dx fs)
theorem join2 {La Lb : Int} : joinLen [La, Lb] = La + Lb - 1 := by
  unfold joinLen
  rw [if_neg (by simp)]
  simp
section
variable {P : Program} {w : World} {K : PySem.W.Frag} {mg : Str → Option Value} {base : Heap} {CE CL fK fR fJ : Addr}
theorem kit_own : PySem.W.kitOne K (.ref CL) (.ref CL) = some true := by
  unfold PySem.W.kitOne
  rw [if_pos (beq_self_eq_true _)]
theorem scInit : FnScope ["self", "length", "parts"] ["self", "length", "parts"] (defScope sInit) := ⟨rfl, rfl, rfl, by decide +kernel, rfl, by decide +kernel, by decide +kernel⟩
theorem ok_init {f : Addr} {fd fdK : FuncData} (F : FunD K "__init__" "Ladder.__init__" (defArgs sInit) (defBody sInit) (defScope sInit) [.int 1] [] f fd) (R : ErrOk P w K mg base "BadNumber" CE "value" okInt) (FK : Fun K "check_not_negative" "check_not_negative" sChk fK fdK) (bK : Binds K fdK ["number"] [])
    (T : LadTxt K mg CL fK fR fJ) : FnOk P w K mg base (L2.CX P w) 5 f fd ["self", "length", "parts"] (spInit CE CL) := by
  have GK : FnOk P w K mg base (L2.CX P w) 4 fK fdK ["number"] (spChk CE) := ok_chk FK R
  refine F.ok scInit (fun vs H Q E h => ?_) (fun cdv A outer s H vs Q E hr h => ?_)
  · obtain ⟨x, L, p, dx, rfl, _⟩ := h
    rfl
  · obtain ⟨x, L, p, dx, rfl, hx, hL, h1, h2⟩ := h
    refine ⟨_, (pss_cons (ps_expr (pe_call (E := E) GK hr rfl T.chk FK.kp bK .nil (passes_call (takes_of rfl rfl rfl rfl) fun _ _ _ _ z => z) (pa_cons (pv 1) pa_nil)))
      (pss_cons (ps_fld (pv 0) (pv 1) rfl)
      (pss_one (ps_fld (pv 0) (pv 2) rfl)))), ?_⟩
    refine ⟨_, rfl, L, rfl, hL, fun c d hd => h1 c H d (fun _ _ e => e) hd, fun c => ?_⟩
    refine ⟨_, rfl, _, rfl, x, CL, dx, _, rfl, hx, T.cl, T.nL, by show 0 < 1000; decide, ?_⟩
    refine ⟨_, rfl, _, rfl, x, CL, dx, _, rfl, upd_same, T.cl, T.nP, by show 1 < 1000; decide, ?_⟩
    rw [upd_upd]
    exact h2 c _ rfl rfl
theorem scAdd : FnScope ["self", "other"] ["self", "other"] (defScope sAdd) := ⟨rfl, rfl, rfl, by decide +kernel, rfl, by decide +kernel, by decide +kernel⟩
theorem ok_add {f fI : Addr} {fd : FuncData} (F : Fun K "__add__" "Ladder.__add__" sAdd f fd) (MK : Mk K CL fI) (GI : FnR P w K mg base (L2.CX P w) 5 fI (spInit CE CL)) (GJ : FnR P w K mg base (L2.CX P w) 4 fJ (spJoined CE)) (kJ : PySem.W.keepIn K (.ref fJ) = true)
    (T : LadTxt K mg CL fK fR fJ) : FnOk P w K mg base (L2.CX P w) 7 f fd ["self", "other"] (spAdd CE CL) := by
  refine F.okX scAdd (fun vs H Q E h => ?_) (fun cdv A outer s H vs Q E hr h => ?_)
  · obtain ⟨a, b, La, Lb, pa, pb, rfl, _⟩ := h
    rfl
  · obtain ⟨a, b, La, Lb, pa, pb, rfl, ⟨dx, fs, ha, la1, la2⟩, ⟨dy, gs, hb, lb1, lb2⟩, pA, pB, sA, sB, h1, h2⟩ := h
    have hr4 : Room 4 _ := hr.mono (by decide)
    refine ⟨_, (pss_cons (ps_if (pt_not (pt_val (pe_callB call_isi (by rfl) T.isi (by decide +kernel) (pa_cons (pv 1) (pa_cons (pe_glob (v := .ref CL) rfl T.lad rfl) pa_nil))))) (pss_one ps_never) pss_nil)
      (pss_one (ps_ret (Own.pe_makeS (E := fun _ => E) MK GI hr rfl T.lad (passS (passes_call (takes_of rfl rfl rfl rfl) fun _ _ _ _ z => z)) (pa_cons (pe_callR (E := E) GJ hr4 rfl T.join kJ (passes_call (takes_of rfl rfl rfl rfl) fun _ _ _ _ z => z) (pa_cons (pe_fld (pv 0) rfl) (pa_cons (pe_fld (pv 1) rfl) pa_nil))) (pa_cons (pe_op op_add (pe_fld (pv 0) rfl) (pe_fld (pv 1) rfl)) pa_nil)))))), ?_⟩
    refine ⟨_, rfl, V.ref b, V.ref CL, .ref CL, .ref CL, true, rfl, .own _, .base (.ins hb T.cl T.ha T.hn T.ht T.hm), kit_own, true, rfl, if_f rfl ?_⟩
    refine ⟨_, rfl, a, CL, dx, fs, _, rfl, ha, T.cl, T.nL, la1, _, rfl, b, CL, dy, gs, _, rfl, hb, T.cl, T.nL, lb1, [La, Lb], rfl, ⟨by show 2 ≤ 10; decide, fun x hx => ?_⟩, h1, fun hn H' S => ?_⟩
    · have z : x = La ∨ x = Lb := by simpa using hx
      have e : (2 : Nat) ^ 900 ≤ 2 ^ 1000 := Nat.pow_le_pow_right (by decide) (by decide)
      generalize (2 : Nat) ^ 1000 = m at e ⊢
      rcases z with rfl | rfl <;> omega
    · refine ⟨_, rfl, a, CL, dx, fs, _, rfl, S _ _ ha, T.cl, T.nP, la2, _, rfl, b, CL, dy, gs, _, rfl, S _ _ hb, T.cl, T.nP, lb2, _, _, rfl, rfl, ?_⟩
      have e : joinLen [La, Lb] = La + Lb - 1 := join2
      rw [e]
      refine mk_lad ?_ (fun c => ?_) fun c x H2 hx S2 hl => h2 hn x H2 ?_ (fun _ _ e => S2 _ _ (S _ _ e)) hl
      · have e : (2 : Nat) ^ 900 * 4 ≤ 2 ^ 1000 := by decide +kernel
        generalize (2 : Nat) ^ 1000 = m at e ⊢
        omega
      · have z : La = 0 ∧ Lb = 0 := by omega
        obtain ⟨rfl, rfl⟩ := z
        exact absurd hn (by decide)
      · cases e : H x with
        | none => rfl
        | some o =>
          have z := S _ _ e
          rw [hx] at z
          cases z
theorem scEq : FnScope ["self", "other"] ["self", "other"] (defScope sEq) := ⟨rfl, rfl, rfl, by decide +kernel, rfl, by decide +kernel, by decide +kernel⟩
theorem ok_eq {f : Addr} {fd : FuncData} (F : Fun K "__eq__" "Ladder.__eq__" sEq f fd) (T : LadTxt K mg CL fK fR fJ) : FnOk P w K mg base CX0 1 f fd ["self", "other"] (spEqL CL) := by
  refine F.ok scEq (fun vs H Q E h => ?_) (fun cdv A outer s H vs Q E hr h => ?_)
  · obtain ⟨a, b, La, Lb, pa, pb, rfl, _⟩ := h
    rfl
  · obtain ⟨a, b, La, Lb, pa, pb, rfl, ⟨dx, fs, ha, la1, la2⟩, ⟨dy, gs, hb, lb1, lb2⟩, k⟩ := h
    refine ⟨_, (pss_cons (ps_if (pt_not (pt_val (pe_callB call_isi (by rfl) T.isi (by decide +kernel) (pa_cons (pv 1) (pa_cons (pe_glob (v := .ref CL) rfl T.lad rfl) pa_nil))))) (pss_one ps_never) pss_nil)
      (pss_one (ps_ret (pe_cmpR op_eq (pe_fld (pv 0) rfl) (pe_fld (pv 1) rfl) (nomark _))))), ?_⟩
    refine ⟨_, rfl, V.ref b, V.ref CL, .ref CL, .ref CL, true, rfl, .own _, .base (.ins hb T.cl T.ha T.hn T.ht T.hm), kit_own, true, rfl, if_f rfl ?_⟩
    refine ⟨_, rfl, a, CL, dx, fs, _, rfl, ha, T.cl, T.nL, la1, _, rfl, b, CL, dy, gs, _, rfl, hb, T.cl, T.nL, lb1, rfl, ?_⟩
    have e : decide (V.int La = V.int Lb) = decide (La = Lb) := by
      by_cases c : La = Lb <;> simp [c]
    rw [e]
    exact k
theorem ni_eq {f : Addr} {fd : FuncData} (F : Fun K "__eq__" "Ladder.__eq__" sEq f fd) (b : Binds K fd ["self", "other"] []) (T : LadTxt K mg CL fK fR fJ) (hmN : mg "NotImplemented" = none) (kI : PySem.W.kitOne K (.type "int") (.ref CL) = some false) : Own.NiOk P w K mg base 1 f (preI CL) := by
  refine Own.ni_def F scEq b (fun vs H h => ?_) rfl rfl hmN fun cdv A outer s H vs hr h => ?_
  · obtain ⟨a, dx, fs, i, rfl, _⟩ := h
    rfl
  · obtain ⟨a, dx, fs, i, rfl, ha⟩ := h
    refine ⟨_, (pt_not (pt_val (pe_callB call_isi (by rfl) T.isi (by decide +kernel) (pa_cons (pv 1) (pa_cons (pe_glob (v := .ref CL) rfl T.lad rfl) pa_nil))))), ?_⟩
    exact ⟨_, rfl, V.int i, V.ref CL, .type "int", .ref CL, false, rfl, .own _, .base (.int i), kI, false, rfl, rfl, rfl⟩
theorem scLt : FnScope ["self", "other"] ["self", "other"] (defScope sLt) := ⟨rfl, rfl, rfl, by decide +kernel, rfl, by decide +kernel, by decide +kernel⟩
theorem ok_lt {f : Addr} {fd : FuncData} (F : Fun K "__lt__" "Ladder.__lt__" sLt f fd) (T : LadTxt K mg CL fK fR fJ) : FnOk P w K mg base CX0 1 f fd ["self", "other"] (spLtL CL) := by
  refine F.ok scLt (fun vs H Q E h => ?_) (fun cdv A outer s H vs Q E hr h => ?_)
  · obtain ⟨a, b, La, Lb, pa, pb, rfl, _⟩ := h
    rfl
  · obtain ⟨a, b, La, Lb, pa, pb, rfl, ⟨dx, fs, ha, la1, la2⟩, ⟨dy, gs, hb, lb1, lb2⟩, k⟩ := h
    refine ⟨_, (pss_cons (ps_if (pt_not (pt_val (pe_callB call_isi (by rfl) T.isi (by decide +kernel) (pa_cons (pv 1) (pa_cons (pe_glob (v := .ref CL) rfl T.lad rfl) pa_nil))))) (pss_one ps_never) pss_nil)
      (pss_one (ps_ret (pe_cmpR op_lt (pe_fld (pv 0) rfl) (pe_fld (pv 1) rfl) (nomark _))))), ?_⟩
    refine ⟨_, rfl, V.ref b, V.ref CL, .ref CL, .ref CL, true, rfl, .own _, .base (.ins hb T.cl T.ha T.hn T.ht T.hm), kit_own, true, rfl, if_f rfl ?_⟩
    exact ⟨_, rfl, a, CL, dx, fs, _, rfl, ha, T.cl, T.nL, la1, _, rfl, b, CL, dy, gs, _, rfl, hb, T.cl, T.nL, lb1, _, _, rfl, rfl, k⟩
theorem scRepr : FnScope ["self"] ["self"] (defScope sRepr) := ⟨rfl, rfl, rfl, by decide +kernel, rfl, by decide +kernel, by decide +kernel⟩
theorem ok_repr {f : Addr} {fd : FuncData} (F : Fun K "__repr__" "Ladder.__repr__" sRepr f fd) (T : LadTxt K mg CL fK fR fJ) : FnOk P w K mg base CX0 1 f fd ["self"] (spRepr CL) := by
  refine F.ok scRepr (fun vs H Q E h => ?_) (fun cdv A outer s H vs Q E hr h => ?_)
  · obtain ⟨a, L, p, rfl, _⟩ := h
    rfl
  · obtain ⟨a, L, p, rfl, ⟨dx, fs, ha, la1, la2⟩, hL, hp, k⟩ := h
    have hL' : L.natAbs.log2 < 1920 := log_of (by decide) (Nat.lt_of_lt_of_le hL (Nat.pow_le_pow_right (by decide) (by decide)))
    have hp' : p.natAbs.log2 < 1920 := log_of (by decide) (Nat.lt_of_lt_of_le hp (Nat.pow_le_pow_right (by decide) (by decide)))
    have zL := int_text_length_le (k := 1920) (by decide) hL'
    have zp := int_text_length_le (k := 1920) (by decide) hp'
    refine ⟨_, pss_one (ps_ret (pe_joined (.cons pe_str (.cons (pe_fmt (pe_fld (pv 0) rfl)) (.cons pe_str (.cons (pe_fmt (pe_fld (pv 0) rfl)) (.cons pe_str .nil))))))), ?_⟩
    have e0 : (Str.empty ++ ("Ladder(" : Str)).length ≤ 10 := by decide +kernel
    have e1 : (", " : Str).length ≤ 10 := by decide +kernel
    have e2 : (")" : Str).length ≤ 10 := by decide +kernel
    have z1 : ((Str.empty ++ ("Ladder(" : Str)) ++ Str.ofString (toString L)).length ≤ 2000 := by rw [Str.length_append, PySem.ofString_length]; omega
    have z2 : (((Str.empty ++ ("Ladder(" : Str)) ++ Str.ofString (toString L)) ++ (", " : Str)).length ≤ 2010 := by rw [Str.length_append]; omega
    have z3 : ((((Str.empty ++ ("Ladder(" : Str)) ++ Str.ofString (toString L)) ++ (", " : Str)) ++ Str.ofString (toString p)).length ≤ 4000 := by rw [Str.length_append, PySem.ofString_length]; omega
    have z4 : (ladTxt L p).length ≤ 4010 := by unfold ladTxt; rw [Str.length_append]; omega
    have big : ∀ n : Nat, n ≤ 4010 → n ≤ sizeLine := fun n h => by rw [sizeLine_eq]; omega
    refine ⟨_, rfl, big _ (by omega), _, rfl, a, CL, dx, fs, _, rfl, ha, T.cl, T.nL, la1, .inr ⟨L, rfl, hL', Str.ofString (toString L), rfl, big _ (by omega), ?_⟩⟩
    refine ⟨_, rfl, big _ (by omega), _, rfl, a, CL, dx, fs, _, rfl, ha, T.cl, T.nP, la2, .inr ⟨p, rfl, hp', Str.ofString (toString p), rfl, big _ (by omega), ?_⟩⟩
    exact ⟨_, rfl, big _ z4, k⟩
theorem scCallL : FnScope ["self", "foot"] ["self", "foot"] (defScope sCallL) := ⟨rfl, rfl, rfl, by decide +kernel, rfl, by decide +kernel, by decide +kernel⟩
theorem ok_callL {f : Addr} {fd fdR : FuncData} (F : FunD K "__call__" "Ladder.__call__" (defArgs sCallL) (defBody sCallL) (defScope sCallL) [.int 0] [] f fd) (GR : FnOk P w K mg base (L2.CX P w) 5 fR fdR ["length", "foot"] (spReach CE)) (FR : FunD K "reach" "reach" (defArgs sReach) (defBody sReach) (defScope sReach) [.int 0] [] fR fdR) (bR : Binds K fdR ["length", "foot"] [])
    (T : LadTxt K mg CL fK fR fJ) : FnOk P w K mg base (L2.CX P w) 6 f fd ["self", "foot"] (spCallL CE CL) := by
  refine F.ok scCallL (fun vs H Q E h => ?_) (fun cdv A outer s H vs Q E hr h => ?_)
  · obtain ⟨a, L, p, f, rfl, _⟩ := h
    rfl
  · obtain ⟨a, L, p, f, rfl, ⟨dx, fs, ha, la1, la2⟩, sL, sf, pL, h1, h2⟩ := h
    refine ⟨_, (pss_one (ps_ret (pe_call (E := E) GR hr rfl T.reach FR.kp bR .nil (passes_call (takes_of rfl rfl rfl rfl) fun _ _ _ _ z => z) (pa_cons (pe_fld (pv 0) rfl) (pa_cons (pv 1) pa_nil))))), ?_⟩
    exact ⟨_, rfl, a, CL, dx, fs, _, rfl, ha, T.cl, T.nL, la1, _, rfl, L, f, rfl, sL, sf, fun c => absurd c (by omega), fun _ c d hd => h1 c H d (fun _ _ e => e) hd, fun _ c r hr => h2 c r hr⟩
end
end Law

namespace Law
open PySem PySem.Spec PyProof.Rows L2 Sup
abbrev sSays : Stmt := top 13
abbrev sLdr : Stmt := top 14
abbrev sSum : Stmt := top 15
abbrev sMade : Stmt := top 16
abbrev sLnt : Stmt := top 17
abbrev sRch : Stmt := top 18
abbrev sWho : Stmt := top 19
abbrev sJoi : Stmt := top 20
def SameB (b : Addr) (H H' : Hp) : Prop := ∀ c o, c ≠ b → H c = some o → H' c = some o
theorem Box.free {H : Hp} {b l d : Addr} (B : Box H b l) (h : H d = none) : b ≠ d ∧ l ≠ d := by
  obtain ⟨ns, i, q, s, h1, h2, _⟩ := B
  exact ⟨ne_of_none h1 h, ne_of_none h2 h⟩
theorem Box.at {H : Hp} {b l d : Addr} {o : HO} (B : Box H b l) (n : b ≠ d ∧ l ≠ d) : Box (upd H d o) b l := B.keep fun c hc => by
  rcases hc with rfl | rfl
  · exact upd_ne n.1
  · exact upd_ne n.2
theorem Box.same {H H' : Hp} {b l : Addr} (B : Box H b l) (s : Same H H') : Box H' b l := by
  obtain ⟨ns, i, q, s', h1, h2, h3⟩ := B
  exact ⟨ns, i, q, s', s _ _ h1, s _ _ h2, h3⟩
theorem Box.neT {H : Hp} {b l c : Addr} {xs : List V} (B : Box H b l) (h : H c = some (.tup xs)) : c ≠ b := fun z => by
  obtain ⟨_, _, _, _, q, _⟩ := B
  rw [z, q] at h
  cases h
theorem Lad.ne {CL : Addr} {H : Hp} {b l x : Addr} {L p : Int} (B : Box H b l) (h : Lad CL H x L p) : x ≠ b := fun z => by
  obtain ⟨_, _, _, _, q, _⟩ := B
  obtain ⟨_, _, h, _⟩ := h
  rw [z, q] at h
  cases h
theorem Lad.sameB {CL : Addr} {H H' : Hp} {b l x : Addr} {L p : Int} (h : Lad CL H x L p) (B : Box H b l) (s : SameB b H H') : Lad CL H' x L p := by
  have n := Lad.ne B h
  obtain ⟨dx, fs, h1, h2⟩ := h
  exact ⟨dx, fs, s _ _ n h1, h2⟩
theorem same_new {H : Hp} {p : Addr} {o : HO} (h : H p = none) : Same H (upd H p o) := fun b o' e => by
  rw [upd_ne (ne_of_none e h)]
  exact e
theorem none_back {H H' : Hp} {x : Addr} (s : Same H H') (h : H' x = none) : H x = none := by
  cases e : H x with
  | none => rfl
  | some o =>
    have z := s _ _ e
    rw [h] at z
    cases z
def spSays : Sp := fun vs H Q _ => ∃ a b : Bool, vs = [.bl a, .bl b] ∧ Q (.bl (decide (a = b))) H
def spLdr (CL : Addr) : Sp := fun vs H Q _ => ∃ b l : Addr, vs = [.ref b] ∧ Box H b l ∧ ∀ (L p : Int) (x t : Addr) (H' : Hp), 0 ≤ L → L ≤ 10 ^ 20 → 1 ≤ p → p ≤ 5 → Lad CL H' x L p → H' t = some (.tup [.ref x, .int L, .int p]) → Box H' b l → SameB b H H' → Q (.ref t) H'
def sumT (La Lb pa pb : Int) : List V := match refused [La, Lb] with
  | some v => [.str "refused", .int v]
  | none => [.str "join", .int (La + Lb - 1), .int (pa + pb)]
def spSum (CL : Addr) : Sp := fun vs H Q _ => ∃ (a b : Addr) (La Lb pa pb : Int), vs = [.ref a, .ref b] ∧ Lad CL H a La pa ∧ Lad CL H b Lb pb ∧ 0 ≤ La ∧ 0 ≤ Lb ∧ La.natAbs < 2 ^ 900 ∧ Lb.natAbs < 2 ^ 900 ∧
  ∀ (t : Addr) (H' : Hp), Same H H' → H' t = some (.tup (sumT La Lb pa pb)) → Q (.ref t) H'
def spMade : Sp := fun vs H Q _ => ∃ v : Int, vs = [.int v] ∧ v < 0 ∧ v.natAbs < 2 ^ 900 ∧ ∀ H', Same H H' → Q (.int v) H'
def spLnt (CL : Addr) : Sp := fun vs H Q _ => ∃ (a : Addr) (L p f : Int), vs = [.ref a, .int f] ∧ Lad CL H a L p ∧ Sz L ∧ Sz f ∧ 0 ≤ L ∧ f < 0 ∧ ∀ (t : Addr) (H' : Hp), Same H H' → H' t = some (.tup [.str "refused", .int f]) → Q (.ref t) H'
def spRch : Sp := fun vs H Q _ => ∃ r L f : Int, vs = [.int r, .int L, .int f] ∧ Sz L ∧ Sz f ∧ 0 ≤ L ∧ 0 ≤ f ∧ ReachR L f r ∧ Q (.bl true) H
def spWho (CL : Addr) : Sp := fun vs H Q _ => ∃ (a : Addr) (L p : Int), vs = [.ref a, .int L, .int p] ∧ Lad CL H a L p ∧ L.natAbs < 2 ^ 1000 ∧ p.natAbs < 2 ^ 1000 ∧ Q (.bl true) H
def spJoi : Sp := fun vs H Q _ => ∃ (t1 t2 x1 x2 : Addr) (La Lb pa pb : Int), vs = [.ref t1, .ref t2] ∧ H t1 = some (.tup [.ref x1, .int La, .int pa]) ∧ H t2 = some (.tup [.ref x2, .int Lb, .int pb]) ∧
  ∀ (t : Addr) (H' : Hp), Same H H' → H' t = some (.tup (sumT La Lb pa pb)) → Q (.ref t) H'
structure LTxt (mg : Str → Option Value) (CL fT fN : Addr) : Prop where
  lad : mg "Ladder" = some (.ref CL)
  take : mg "_law_take" = some (.ref fT)
  num : mg "_law_number" = some (.ref fN)
  b_len : mg "len" = none
  b_repr : mg "repr" = none
  b_str : mg "str" = none
section
variable {P : Program} {w : World} {K : PySem.W.Frag} {mg : Str → Option Value} {base : Heap} {CE CL fT fN : Addr}
theorem scSays : FnScope ["_law_told", "_law_due"] ["_law_told", "_law_due"] (defScope sSays) := ⟨rfl, rfl, rfl, by decide +kernel, rfl, by decide +kernel, by decide +kernel⟩
theorem ok_says {f : Addr} {fd : FuncData} (F : Fun K "_law_says" "_law_says" sSays f fd) : FnOk P w K mg base CX0 1 f fd ["_law_told", "_law_due"] spSays := by
  refine F.ok scSays (fun vs H Q E h => ?_) (fun cdv A outer s H vs Q E hr h => ?_)
  · obtain ⟨a, b, rfl, _⟩ := h
    rfl
  · obtain ⟨a, b, rfl, k⟩ := h
    refine ⟨_, (pss_cons (ps_if (pt_val (pv 1)) (pss_one (ps_ret (pe_cmpR op_is_bl (pv 0) pe_bl (nomark _)))) pss_nil)
      (pss_one (ps_ret (pe_cmpR op_is_bl (pv 0) pe_bl (nomark _))))), ?_⟩
    cases b with
    | true => exact ⟨_, rfl, true, rfl, if_t rfl ⟨_, rfl, a, true, rfl, rfl, k⟩⟩
    | false => exact ⟨_, rfl, false, rfl, if_f rfl ⟨_, rfl, a, false, rfl, rfl, k⟩⟩
theorem scLdr : FnScope ["_law_box_here", "_law_length", "_law_great", "_law_parts"] ["_law_box_here"] (defScope sLdr) := ⟨rfl, rfl, rfl, by decide +kernel, rfl, by decide +kernel, by decide +kernel⟩
theorem ok_ldr {f fI : Addr} {fd fdT : FuncData} (F : Fun K "_law_ladder" "_law_ladder" sLdr f fd) (MK : Mk K CL fI) (GI : FnR P w K mg base (L2.CX P w) 5 fI (spInit CE CL)) (GI1 : FnR P w K mg base (L2.CX P w) 5 fI (spInit1 CE CL))
    (GT : FnOk P w K mg base CX0 1 fT fdT ["_law_box_here", "_law_size"] spTake) (FT : Fun K "_law_take" "_law_take" sTake fT fdT) (bT : Binds K fdT ["_law_box_here", "_law_size"] []) (T : LTxt mg CL fT fN) : FnOk P w K mg base CX0 7 f fd ["_law_box_here"] (spLdr CL) := by
  refine F.ok scLdr (fun vs H Q E h => ?_) (fun cdv A outer s H vs Q E hr h => ?_)
  · obtain ⟨b, l, rfl, _⟩ := h
    rfl
  · obtain ⟨b, l, rfl, B, k⟩ := h
    have hr1 : Room 1 _ := hr.mono (by decide)
    refine ⟨_, (pss_cons (ps_set (i := 1) scLdr.nd rfl (Or.inl rfl) (pe_call GT hr1 rfl T.take FT.kp bT .nil pass0 (pa_cons (pv 0) (pa_cons pe_int pa_nil))))
      (pss_cons (ps_set (i := 2) scLdr.nd rfl (Or.inl rfl) (pe_call GT hr1 rfl T.take FT.kp bT .nil pass0 (pa_cons (pv 0) (pa_cons (pe_op op_pow pe_int pe_int) pa_nil))))
      (C8.pss_cut (ps_if (pt_cmpR op_eq (pe_call GT hr1 rfl T.take FT.kp bT .nil pass0 (pa_cons (pv 0) (pa_cons pe_int pa_nil))) pe_int (nomark _)) (pss_one (ps_set (i := 1) scLdr.nd rfl (Or.inl rfl) (pv 2))) pss_nil)
      (pss_cons (ps_set (i := 3) scLdr.nd rfl (Or.inl rfl) (pe_call GT hr1 rfl T.take FT.kp bT .nil pass0 (pa_cons (pv 0) (pa_cons pe_int pa_nil))))
      (pss_cons (ps_if (pt_cmpR op_eq (pv 3) pe_int (nomark _)) (pss_one (ps_ret (pe_tup (pa_cons (Own.pe_makeS (E := fun _ => E0) MK GI1 hr rfl T.lad (passS passL) (pa_cons (pv 1) pa_nil)) (pa_cons (pv 1) (pa_cons pe_int pa_nil)))))) pss_nil)
      (pss_one (ps_ret (pe_tup (pa_cons (Own.pe_makeS (E := fun _ => E0) MK GI hr rfl T.lad (passS passL) (pa_cons (pv 1) (pa_cons (pv 3) pa_nil))) (pa_cons (pv 1) (pa_cons (pv 3) pa_nil))))))))))), ?_⟩
    refine ⟨_, rfl, b, l, _, rfl, B, by decide, by decide, fun L0 H1 a0 a1 B1 k1 => ?_⟩
    refine ⟨_, rfl, _, _, rfl, rfl, pow_ok (by decide), b, l, _, rfl, B1, by decide +kernel, by decide +kernel, fun g H2 c0 c1 B2 k2 => ?_⟩
    have g1 : g < 10 ^ 20 := c1
    refine ⟨fun σ' H' => ∃ L : Int, σ' = [some (.ref b), some (.int L), some (.int g), none] ∧ 0 ≤ L ∧ L ≤ 10 ^ 20 ∧ Box H' b l ∧ ∀ c, c ≠ b → H' c = H c, ?_, ?_⟩
    · refine ⟨_, rfl, b, l, _, rfl, B2, by decide, by decide, fun q H3 d0 d1 B3 k3 => ⟨rfl, _, rfl, ?_⟩⟩
      have kk : ∀ c, c ≠ b → H3 c = H c := fun c hc => (k3 c hc).trans ((k2 c hc).trans (k1 c hc))
      refine ite2 (fun _ => ?_) fun _ => ?_
      · exact ⟨_, rfl, g, rfl, c0, by omega, B3, kk⟩
      · exact ⟨L0, rfl, a0, by omega, B3, kk⟩
    · rintro σ' H3 ⟨L, rfl, p0, p1, B3, k3⟩
      refine ⟨_, rfl, b, l, _, rfl, B3, by decide, by decide, fun q H4 d0 d1 B4 k4 => ?_⟩
      have sL : L.natAbs < 2 ^ 1000 := Nat.lt_of_le_of_lt (show L.natAbs ≤ 10 ^ 20 by omega) (by decide +kernel)
      have fin : ∀ (p : Int) (x : Addr) (H5 : Hp), 1 ≤ p → p ≤ 5 → Same H4 H5 → Lad CL H5 x L p → ∀ t, H5 t = none → Q (.ref t) (upd H5 t (.tup [.ref x, .int L, .int p])) := fun p x H5 e0 e1 S hl t ht => by
        refine k L p x t _ p0 p1 e0 e1 (hl.same (same_new ht)) upd_same ((B4.same S).same (same_new ht)) fun c o hc e => same_new ht _ _ (S _ _ ?_)
        rw [k4 c hc, k3 c hc]
        exact e
      refine ⟨_, rfl, rfl, _, rfl, ?_⟩
      by_cases c : q = 0
      · refine if_t (by rw [c]; rfl) ?_
        refine ⟨_, rfl, ?_⟩
        refine mk_lad1 sL (fun z => absurd z (by omega)) fun _ x H5 hx S hl => ?_
        exact ⟨_, rfl, by show 3 ≤ sizeLine; decide, fun t ht => fin 1 x H5 (by decide) (by decide) S hl t ht⟩
      · refine if_f (by simp [c]) ?_
        refine ⟨_, rfl, _, rfl, ?_⟩
        refine mk_lad sL (fun z => absurd z (by omega)) fun _ x H5 hx S hl => ?_
        exact ⟨_, rfl, _, rfl, by show 3 ≤ sizeLine; decide, fun t ht => fin q x H5 (by omega) (by omega) S hl t ht⟩
theorem scSum : FnScope ["_law_a", "_law_b", "_law_both", "e"] ["_law_a", "_law_b"] (defScope sSum) := ⟨rfl, rfl, rfl, by decide +kernel, rfl, by decide +kernel, by decide +kernel⟩
theorem ok_sum {f fA : Addr} {fd : FuncData} (F : Fun K "_law_sum" "_law_sum" sSum f fd) (R : ErrOk P w K mg base "BadNumber" CE "value" okInt) (GA : FnR P w K mg base (L2.CX P w) 7 fA (spAdd CE CL)) (hsA : PySem.W.findIn K (.ref CL) "__add__" = some (some (.ref fA))) (hfA : PySem.W.isFn K (.ref fA) = true)
    (hcA : PySem.W.selfFirst K CL = true) (cl : Cls K CL) (nL : NoAttr K CL "length") (nP : NoAttr K CL "parts") : FnOk P w K mg base CX0 8 f fd ["_law_a", "_law_b"] (spSum CL) := by
  refine F.ok scSum (fun vs H Q E h => ?_) (fun cdv A outer s H vs Q E hr h => ?_)
  · obtain ⟨a, b, La, Lb, pa, pb, rfl, _⟩ := h
    rfl
  · obtain ⟨a, b, La, Lb, pa, pb, rfl, hA, hB, pA, pB, sA, sB, k⟩ := h
    refine ⟨_, (pss_cons (ps_try_as (i := 3) (tb := fun W => tAsg (fun σ H Q => tVar 0 σ H fun x H1 => tVar 1 σ H1 fun y H2 => Own.rOwn CL (spAdd CE CL) (WE W σ) x y H2 Q) (gName 2)) (ts := fun a cls d => tRet (tTup (tCons (tC (.str "refused")) (tCons (tXf a cls d CE "value" (tVar 3)) tNil))))
        (Wout := fun _ _ _ _ => False) rfl rfl scSum.nd rfl rfl ⟨rfl, by decide, Or.inl R.g⟩ takes0
        (fun W pn xe tk _ => pss_one (ps_set (i := 2) scSum.nd rfl (Or.inl rfl) (by exact (Own.pe_binS (E := WE W) GA hsA hfA hcA hr (fun σ => passAt tk σ) (pv 0) (pv 1)))))
        (fun a oe cls d pn hz hf => pss_one (ps_ret (pe_tup (pa_cons pe_str (by exact (pa_cons (pe_xf R.xf R.no hz hf (pv 3)) pa_nil)))))))
      (pss_one (ps_ret (pe_tup (pa_cons pe_str (pa_cons (pe_fld (pv 2) rfl) (pa_cons (pe_fld (pv 2) rfl) pa_nil))))))), ?_⟩
    obtain ⟨dx, fs, ha, la⟩ := id hA
    obtain ⟨dy, gs, hb, lb⟩ := id hB
    refine ⟨_, rfl, _, rfl, a, b, dx, dy, fs, gs, rfl, rfl, ha, hb, a, b, La, Lb, pa, pb, rfl, hA, hB, pA, pB, sA, sB, fun v hv => fun H' d S hd => ⟨true, R.te, fun _ q ha => ?_, fun z => Bool.noConfusion z⟩, fun hn x H' hx S hl => ?_⟩
    · refine ⟨_, rfl, rfl, rfl, d, _, _, rfl, upd_same, rfl, by show 2 ≤ sizeLine; decide, fun t ht => ?_⟩
      refine k t _ (fun c o e => same_new ht _ _ (same_new hd _ _ (S _ _ e))) ?_
      rw [upd_same]
      unfold sumT
      rw [hv]
    · obtain ⟨dz, hs, hx1, l1, l2⟩ := id hl
      refine ⟨_, rfl, x, CL, dz, hs, _, rfl, hx1, cl, nL, l1, _, rfl, x, CL, dz, hs, _, rfl, hx1, cl, nP, l2, by show 3 ≤ sizeLine; decide, fun t ht => ?_⟩
      refine k t _ (fun c o e => same_new ht _ _ (S _ _ e)) ?_
      rw [upd_same]
      unfold sumT
      rw [hn]
theorem scMade : FnScope ["_law_length", "e"] ["_law_length"] (defScope sMade) := ⟨rfl, rfl, rfl, by decide +kernel, rfl, by decide +kernel, by decide +kernel⟩
theorem ok_made {f fI : Addr} {fd : FuncData} (F : Fun K "_law_made" "_law_made" sMade f fd) (R : ErrOk P w K mg base "BadNumber" CE "value" okInt) (MK : Mk K CL fI) (GI1 : FnR P w K mg base (L2.CX P w) 5 fI (spInit1 CE CL)) (T : LTxt mg CL fT fN) : FnOk P w K mg base CX0 7 f fd ["_law_length"] spMade := by
  refine F.ok scMade (fun vs H Q E h => ?_) (fun cdv A outer s H vs Q E hr h => ?_)
  · obtain ⟨v, rfl, _⟩ := h
    rfl
  · obtain ⟨v, rfl, hv, sv, k⟩ := h
    refine ⟨_, (pss_cons (ps_try_as (i := 1) (tb := fun W => tDrop (Own.tMakeS CL (spInit1 CE CL) (WE W) (tCons (tVar 0) tNil))) (ts := fun a cls d => tRet (tXf a cls d CE "value" (tVar 1)))
        (Wout := fun _ _ _ _ => False) rfl rfl scMade.nd rfl rfl ⟨rfl, by decide, Or.inl R.g⟩ takes0
        (fun W pn xe tk _ => pss_one (ps_expr (by exact (Own.pe_makeS (E := WE W) MK GI1 hr rfl T.lad (fun σ => passAt tk σ) (by exact (pa_cons (pv 0) pa_nil))))))
        (fun a oe cls d pn hz hf => pss_one (ps_ret (pe_xf R.xf R.no hz hf (pv 1)))))
      (pss_one (ps_ret pe_int))), ?_⟩
    refine ⟨_, rfl, ?_⟩
    refine mk_lad1 (Nat.lt_of_lt_of_le sv (Nat.pow_le_pow_right (by decide) (by decide))) (fun _ => fun H' d S hd => ⟨true, R.te, fun _ q ha => ?_, fun z => Bool.noConfusion z⟩) fun c => absurd c (by omega)
    exact ⟨_, rfl, rfl, rfl, d, _, _, rfl, upd_same, rfl, k _ fun c o e => same_new hd _ _ (S _ _ e)⟩
theorem scLnt : FnScope ["_law_ladder_here", "_law_stand", "e"] ["_law_ladder_here", "_law_stand"] (defScope sLnt) := ⟨rfl, rfl, rfl, by decide +kernel, rfl, by decide +kernel, by decide +kernel⟩
theorem ok_lnt {f g : Addr} {fd : FuncData} (F : Fun K "_law_leant" "_law_leant" sLnt f fd) (R : ErrOk P w K mg base "BadNumber" CE "value" okInt) (CO : StX.CallO K CL g) (GCL : FnR P w K mg base (L2.CX P w) 6 g (spCallL CE CL)) : FnOk P w K mg base CX0 7 f fd ["_law_ladder_here", "_law_stand"] (spLnt CL) := by
  refine F.ok scLnt (fun vs H Q E h => ?_) (fun cdv A outer s H vs Q E hr h => ?_)
  · obtain ⟨a, L, p, f, rfl, _⟩ := h
    rfl
  · obtain ⟨a, L, p, f, rfl, hA, sL, sf, pL, hf, k⟩ := h
    refine ⟨_, (pss_one (ps_try_as (i := 2) (tb := fun W => tRet (Own.tCallIS 0 CL (spCallL CE CL) (WE W) (tCons (tVar 1) tNil))) (ts := fun a cls d => tRet (tTup (tCons (tC (.str "refused")) (tCons (tXf a cls d CE "value" (tVar 2)) tNil))))
        (Wout := fun _ _ _ _ => False) rfl rfl scLnt.nd rfl rfl ⟨rfl, by decide, Or.inl R.g⟩ takes0
        (fun W pn xe tk _ => pss_one (ps_ret (by exact (Own.pe_callIS (E := WE W) CO GCL hr (fun σ => passAt tk σ) rfl (.inl rfl) (by exact (pa_cons (pv 1) pa_nil))))))
        (fun a oe cls d pn hz hf => pss_one (ps_ret (pe_tup (pa_cons pe_str (by exact (pa_cons (pe_xf R.xf R.no hz hf (pv 2)) pa_nil)))))))), ?_⟩
    obtain ⟨dx, fs, ha, _⟩ := id hA
    refine ⟨a, rfl, _, rfl, ⟨dx, fs, ha⟩, a, L, p, f, rfl, hA, sL, sf, pL, fun _ => fun H' d S hd => ⟨true, R.te, fun _ q ha => ?_, fun z => Bool.noConfusion z⟩, fun c => absurd c (by omega)⟩
    refine ⟨_, rfl, rfl, rfl, d, _, _, rfl, upd_same, rfl, by show 2 ≤ sizeLine; decide, fun t ht => ?_⟩
    exact k t _ (fun c o e => same_new ht _ _ (same_new hd _ _ (S _ _ e))) upd_same
theorem scRch : FnScope ["_law_told", "_law_length", "_law_stand"] ["_law_told", "_law_length", "_law_stand"] (defScope sRch) := ⟨rfl, rfl, rfl, by decide +kernel, rfl, by decide +kernel, by decide +kernel⟩
theorem ok_rch {f : Addr} {fd fdN : FuncData} (F : Fun K "_law_reaches" "_law_reaches" sRch f fd) (GN : FnOk P w K mg base CX0 1 fN fdN ["_law_x"] spNum) (FN : Fun K "_law_number" "_law_number" sNum fN fdN) (bN : Binds K fdN ["_law_x"] []) (T : LTxt mg CL fT fN) : FnOk P w K mg base CX0 2 f fd ["_law_told", "_law_length", "_law_stand"] spRch := by
  refine F.ok scRch (fun vs H Q E h => ?_) (fun cdv A outer s H vs Q E hr1 h => ?_)
  · obtain ⟨r, L, f, rfl, _⟩ := h
    rfl
  · obtain ⟨r, L, f, rfl, sL, sf, pL, pf, ⟨r1, r2⟩, k⟩ := h
    refine ⟨_, (pss_cons (ps_if (pt_not (pt_val (pe_call GN hr1 rfl T.num FN.kp bN .nil pass0 (pa_cons (pv 0) pa_nil)))) (pss_one (ps_ret pe_bl)) pss_nil)
      (pss_cons (ps_if (pt_cmpR op_gt (pv 2) (pv 1) (nomark _)) (pss_one (ps_ret (pe_cmpR op_eq (pv 0) (pe_un un_neg pe_int) (nomark _)))) pss_nil)
      (pss_cons (ps_if (PW.pt (pw_or (pt_cmpR op_lt (pv 0) pe_int (nomark _)) (pw_or1 (pt_cmpR op_gt (pe_op op_add (pe_op op_mulW (pv 0) (pv 0)) (pe_op op_mulW (pv 2) (pv 2))) (pe_op op_mulW (pv 1) (pv 1)) (nomark _))))) (pss_one (ps_ret pe_bl)) pss_nil)
      (pss_one (ps_ret (pe_cmpR op_gt (pe_op op_add (pe_op op_mulW (pe_op op_add (pv 0) pe_int) (pe_op op_add (pv 0) pe_int)) (pe_op op_mulW (pv 2) (pv 2))) (pe_op op_mulW (pv 1) (pv 1)) (nomark _))))))), ?_⟩
    refine ⟨_, rfl, r, rfl, true, rfl, if_f rfl ?_⟩
    refine ⟨_, rfl, _, rfl, _, _, rfl, rfl, _, rfl, ?_⟩
    by_cases c : L < f
    · refine if_t (decide_eq_true c) ?_
      have e := r1 c
      subst e
      refine ⟨_, rfl, _, rfl, rfl, ?_⟩
      exact k
    · refine if_f (decide_eq_false c) ?_
      obtain ⟨q0, q1, q2⟩ := r2 (by omega)
      have h5 : 0 ≤ f * f := Int.mul_nonneg pf pf
      have hrL : r ≤ L := by
        refine Int.not_lt.mp fun z => ?_
        have := Int.mul_lt_mul' (Int.le_of_lt z) z pL (by omega : 0 < r)
        omega
      have sr : r.natAbs < 2 ^ 200 := Nat.lt_of_le_of_lt (show r.natAbs ≤ L.natAbs by omega) sL
      have sr1 : (r + 1).natAbs < 2 ^ 300 := by
        have e : (2 : Nat) ^ 200 * 2 ≤ 2 ^ 300 := by decide +kernel
        generalize (2 : Nat) ^ 300 = m at e ⊢
        generalize (2 : Nat) ^ 200 = n at e sr
        omega
      refine ⟨_, rfl, _, _, rfl, rfl, _, rfl, if_f (decide_eq_false (by omega)) ?_⟩
      refine ⟨_, rfl, _, rfl, _, _, rfl, rfl, Sz.mul (Sz.w sr) (Sz.w sr), _, rfl, _, rfl, _, _, rfl, rfl, Sz.mul sf.w sf.w, _, _, rfl, rfl, _, rfl, _, rfl, _, _, rfl, rfl, Sz.mul sL.w sL.w, _, _, rfl, rfl, _, rfl, if_f (decide_eq_false (by omega)) ?_⟩
      refine ⟨_, rfl, _, _, rfl, rfl, _, rfl, _, _, rfl, rfl, _, _, rfl, rfl, Sz.mul sr1 sr1, _, rfl, _, rfl, _, _, rfl, rfl, Sz.mul sf.w sf.w, _, _, rfl, rfl, _, rfl, _, rfl, _, _, rfl, rfl, Sz.mul sL.w sL.w, _, _, rfl, rfl, ?_⟩
      have e : decide (L * L < (r + 1) * (r + 1) + f * f) = true := decide_eq_true (by omega)
      show Q (V.bl (decide (L * L < (r + 1) * (r + 1) + f * f))) H
      rw [e]
      exact k
theorem scWho : FnScope ["_law_ladder_here", "_law_length", "_law_parts"] ["_law_ladder_here", "_law_length", "_law_parts"] (defScope sWho) := ⟨rfl, rfl, rfl, by decide +kernel, rfl, by decide +kernel, by decide +kernel⟩
theorem ok_who {f g : Addr} {fd fdN : FuncData} (F : Fun K "_law_whole" "_law_whole" sWho f fd) (GN : FnOk P w K mg base CX0 1 fN fdN ["_law_x"] spNum) (FN : Fun K "_law_number" "_law_number" sNum fN fdN) (bN : Binds K fdN ["_law_x"] []) (T : LTxt mg CL fT fN)
    (GP : FnR P w K mg base CX0 1 g (spRepr CL)) (hsR : PySem.W.findIn K (.ref CL) "__repr__" = some (some (.ref g))) (hfR : PySem.W.isFn K (.ref g) = true) (cl : Cls K CL) (nL : NoAttr K CL "length") (nP : NoAttr K CL "parts") : FnOk P w K mg base CX0 3 f fd ["_law_ladder_here", "_law_length", "_law_parts"] (spWho CL) := by
  refine F.ok scWho (fun vs H Q E h => ?_) (fun cdv A outer s H vs Q E hr2 h => ?_)
  · obtain ⟨a, L, p, rfl, _⟩ := h
    rfl
  · obtain ⟨a, L, p, rfl, hA, sL, sp, k⟩ := h
    have hr1 : Room 1 _ := hr2.mono (by decide)
    refine ⟨_, (pss_cons (ps_if (PW.pt (pw_or (pt_not (pt_val (pe_call GN hr1 rfl T.num FN.kp bN .nil pass0 (pa_cons (pe_fld (pv 0) rfl) pa_nil)))) (pw_or1 (pt_not (pt_val (pe_call GN hr1 rfl T.num FN.kp bN .nil pass0 (pa_cons (pe_fld (pv 0) rfl) pa_nil))))))) (pss_one (ps_ret pe_bl)) pss_nil)
      (pss_cons (ps_if (PW.pt (pw_or (pt_cmpR op_ne (pe_fld (pv 0) rfl) (pv 1) (nomark _)) (pw_or1 (pt_cmpR op_ne (pe_fld (pv 0) rfl) (pv 2) (nomark _))))) (pss_one (ps_ret pe_bl)) pss_nil)
      (pss_one (ps_ret (pe_cmpR op_eq (pe_callB (Own.call_repr GP hsR hfR hr2 pass0) (by rfl) T.b_repr (by decide +kernel) (pa_cons (pv 0) pa_nil)) (pe_op op_add_str (pe_op op_add_str (pe_op op_add_str (pe_op op_add_str pe_str (pe_callTy call_str_int (by rfl) T.b_str (by decide +kernel) (pa_cons (pv 1) pa_nil))) pe_str) (pe_callTy call_str_int (by rfl) T.b_str (by decide +kernel) (pa_cons (pv 2) pa_nil))) pe_str) (nomark _)))))), ?_⟩
    obtain ⟨dx, fs, ha, l1, l2⟩ := id hA
    have hL' : L.natAbs.log2 < 1920 := log_of (by decide) (Nat.lt_of_lt_of_le sL (Nat.pow_le_pow_right (by decide) (by decide)))
    have hp' : p.natAbs.log2 < 1920 := log_of (by decide) (Nat.lt_of_lt_of_le sp (Nat.pow_le_pow_right (by decide) (by decide)))
    have zL : (Str.ofString (toString L)).length ≤ 1921 := by rw [PySem.ofString_length]; exact int_text_length_le (k := 1920) (by decide) hL'
    have zp : (Str.ofString (toString p)).length ≤ 1921 := by rw [PySem.ofString_length]; exact int_text_length_le (k := 1920) (by decide) hp'
    have e0 : ("Ladder(" : Str).length ≤ 10 := by decide +kernel
    have e1 : (", " : Str).length ≤ 10 := by decide +kernel
    have e2 : (")" : Str).length ≤ 10 := by decide +kernel
    have big : ∀ n : Nat, n ≤ 4010 → n ≤ sizeLine := fun n h => by rw [sizeLine_eq]; omega
    refine ⟨_, rfl, a, CL, dx, fs, _, rfl, ha, cl, nL, l1, L, rfl, true, rfl, if_f rfl ?_⟩
    refine ⟨_, rfl, a, CL, dx, fs, _, rfl, ha, cl, nP, l2, p, rfl, true, rfl, if_f rfl ?_⟩
    refine ⟨_, rfl, a, CL, dx, fs, _, rfl, ha, cl, nL, l1, _, rfl, rfl, _, rfl, if_f (by simp) ?_⟩
    refine ⟨_, rfl, a, CL, dx, fs, _, rfl, ha, cl, nP, l2, _, rfl, rfl, _, rfl, if_f (by simp) ?_⟩
    refine ⟨_, rfl, a, dx, fs, rfl, ha, a, L, p, rfl, hA, sL, sp, _, rfl, ?_⟩
    refine ⟨_, rfl, L, rfl, hL', _, _, rfl, rfl, big _ (by omega), _, _, rfl, rfl, big _ (by rw [Str.length_append]; omega), ?_⟩
    refine ⟨_, rfl, p, rfl, hp', _, _, rfl, rfl, big _ (by rw [Str.length_append, Str.length_append]; omega), _, _, rfl, rfl, big _ (by rw [Str.length_append, Str.length_append, Str.length_append]; omega), rfl, ?_⟩
    have e : ladTxt L p = ((("Ladder(" : Str) ++ Str.ofString (toString L) ++ (", " : Str)) ++ Str.ofString (toString p)) ++ (")" : Str) := by
      unfold ladTxt
      have z : Str.empty ++ ("Ladder(" : Str) = ("Ladder(" : Str) := by decide +kernel
      rw [z]
    rw [e, decide_eq_true rfl]
    exact k
theorem scJoi : FnScope ["_law_one", "_law_other", "_law_bad", "_law_length"] ["_law_one", "_law_other"] (defScope sJoi) := ⟨rfl, rfl, rfl, by decide +kernel, rfl, by decide +kernel, by decide +kernel⟩
theorem ok_joi {f : Addr} {fd : FuncData} (F : Fun K "_law_join" "_law_join" sJoi f fd) (T : LTxt mg CL fT fN) : FnOk P w K mg base CX0 1 f fd ["_law_one", "_law_other"] spJoi := by
  refine F.ok scJoi (fun vs H Q E h => ?_) (fun cdv A outer s H vs Q E hr h => ?_)
  · obtain ⟨t1, t2, x1, x2, La, Lb, pa, pb, rfl, _⟩ := h
    rfl
  · obtain ⟨t1, t2, x1, x2, La, Lb, pa, pb, rfl, h1, h2, k⟩ := h
    refine ⟨_, (pss_cons (ps_setLc (i := 2) (own := [("_law_length", 3)]) (g := gName 3) (by rfl) scJoi.nd rfl rfl (sw_true rfl rfl rfl (by decide +kernel)) (pi_list (pe_lst (pa_cons (pe_ix ix_tup (pv 0) pe_int (fun _ _ => rfl)) (pa_cons (pe_ix ix_tup (pv 1) pe_int (fun _ _ => rfl)) pa_nil)))) (blkOk_by (own := [("_law_length", 3)]) (N := ["_law_one", "_law_other", "_law_bad", "_law_length"]) (sc := defScope sJoi) (by decide +kernel)) (fun _ _ _ _ _ => pg_name (i := 3) scJoi.nd rfl (Or.inl rfl)) (fun _ _ _ _ _ => (pts_one (pt_cmpR op_le (pv 3) pe_int (nomark _)))) (fun _ _ _ _ _ => (pv 3)))
      (pss_cons (ps_if (pt_cmpR op_gt (pe_callB call_len_seq (by rfl) T.b_len PySem.boot_len (pa_cons (pv 2) pa_nil)) pe_int (nomark _)) (pss_one (ps_ret (pe_tup (pa_cons pe_str (pa_cons (pe_ix ix_list (pv 2) pe_int (fun _ _ => rfl)) pa_nil))))) pss_nil)
      (pss_one (ps_ret (pe_tup (pa_cons pe_str (pa_cons (pe_op op_sub (pe_op op_add (pe_ix ix_tup (pv 0) pe_int (fun _ _ => rfl)) (pe_ix ix_tup (pv 1) pe_int (fun _ _ => rfl))) pe_int) (pa_cons (pe_op op_add (pe_ix ix_tup (pv 0) pe_int (fun _ _ => rfl)) (pe_ix ix_tup (pv 1) pe_int (fun _ _ => rfl))) pa_nil)))))))), ?_⟩
    refine ⟨_, rfl, t1, _, _, _, rfl, rfl, SqT.of h1, rfl, _, rfl, t2, _, _, _, rfl, rfl, SqT.of h2, rfl, by show 2 ≤ sizeLine; decide, fun p hp => ?_⟩
    refine ⟨p, rfl, ⟨_, SqL.of upd_same⟩, fun D hD => ?_⟩
    have npD : p ≠ D := fun z => by rw [z, upd_same] at hD; cases hD
    have hDH : H D = none := by rw [upd_ne (Ne.symm npD)] at hD; exact hD
    have S0 : Same H (upd (upd H p (.lst [V.int La, V.int Lb])) D (.lst [])) := fun b o e => same_new hD _ _ (same_new hp _ _ e)
    refine lc_list (K := K) (a := p) (xs := [La, Lb].map V.int) (fun i H' => H' D = some (.lst ((([La, Lb].take i).filter fun x => decide (x ≤ 1)).map V.int)) ∧ H' p = some (.lst ([La, Lb].map V.int)) ∧ Same H H')
      ⟨upd_same, by rw [upd_ne npD, upd_same]; rfl, S0⟩ (fun i H' _ h => SqL.of h.2.1) ?_ ?_
    · rintro i y H' hi ⟨g1, g2, g3⟩
      obtain ⟨z, hz, rfl⟩ : ∃ z, [La, Lb][i]? = some z ∧ y = V.int z := by
        rw [List.getElem?_map] at hi
        cases e : [La, Lb][i]? with
        | none =>
          rw [e] at hi
          cases hi
        | some z =>
          rw [e] at hi
          exact ⟨z, rfl, (Option.some.inj hi).symm⟩
      refine ⟨rfl, _, rfl, _, _, rfl, rfl, _, rfl, ?_⟩
      by_cases c : z ≤ 1
      · refine if_t (decide_eq_true c) ⟨_, rfl, _, g1, ?_, ?_, by rw [upd_ne npD]; exact g2, fun b o e => ?_⟩
        · rw [List.length_map]
          refine small1000 (Nat.le_trans (List.length_filter_le _ _) ?_)
          rw [List.length_take]
          show min i 2 ≤ 1000
          omega
        · rw [upd_same, List.take_succ, hz, Option.toList_some, List.filter_append, List.map_append]
          simp [c]
        · rw [upd_ne (ne_of_none e hDH)]
          exact g3 _ _ e
      · refine if_f (decide_eq_false c) ⟨?_, g2, g3⟩
        rw [g1, List.take_succ, hz, Option.toList_some, List.filter_append]
        simp [c]
    rintro H' ⟨g1, g2, g3⟩
    rw [List.length_map, List.take_length] at g1
    have ef : refused [La, Lb] = ([La, Lb].filter fun x => decide (x ≤ 1)).head? := by
      unfold refused
      rw [← List.head?_filter]
      have e : (fun x : Int => decide (x < lst [La, Lb])) = fun x => decide (x ≤ 1) := by
        funext x
        have e2 : lst [La, Lb] = 2 := rfl
        rw [e2]
        exact decide_eq_decide.mpr (by omega)
      rw [e]
    refine ⟨_, rfl, D, _, rfl, .inl (SqL.of g1), _, _, rfl, rfl, _, rfl, ?_⟩
    rw [List.length_map]
    cases hf : ([La, Lb].filter fun x => decide (x ≤ 1)) with
    | cons v rest =>
      rw [hf] at g1 ef
      refine if_t (decide_eq_true (by simp)) ?_
      refine ⟨_, rfl, D, _, _, V.int v, rfl, rfl, SqL.of g1, at_of (j := 0) rfl rfl, by show 2 ≤ sizeLine; decide, fun t ht => ?_⟩
      refine k t _ (fun b o e => same_new ht _ _ (g3 _ _ e)) ?_
      rw [upd_same]
      unfold sumT
      rw [ef]
      rfl
    | nil =>
      rw [hf] at ef
      refine if_f (by rfl) ?_
      refine ⟨_, rfl, t1, _, _, _, rfl, rfl, SqT.of (g3 _ _ h1), rfl, _, rfl, t2, _, _, _, rfl, rfl, SqT.of (g3 _ _ h2), rfl, _, _, rfl, rfl, _, _, rfl, rfl, ?_⟩
      refine ⟨_, rfl, t1, _, _, _, rfl, rfl, SqT.of (g3 _ _ h1), rfl, _, rfl, t2, _, _, _, rfl, rfl, SqT.of (g3 _ _ h2), rfl, _, _, rfl, rfl, by show 3 ≤ sizeLine; decide, fun t ht => ?_⟩
      refine k t _ (fun b o e => same_new ht _ _ (g3 _ _ e)) ?_
      rw [upd_same]
      unfold sumT
      rw [ef]
      rfl
end
end Law


namespace Law
open PySem PySem.Spec PyProof.Rows L2 Sup
abbrev sLaw : Stmt := top 21
structure MTxt (mg : Str → Option Value) (fB fLd fSy fSu fJo fWh fRc fLn fMd : Addr) : Prop where
  box : mg "_law_box" = some (.ref fB)
  ldr : mg "_law_ladder" = some (.ref fLd)
  says : mg "_law_says" = some (.ref fSy)
  sum : mg "_law_sum" = some (.ref fSu)
  joi : mg "_law_join" = some (.ref fJo)
  who : mg "_law_whole" = some (.ref fWh)
  rch : mg "_law_reaches" = some (.ref fRc)
  lnt : mg "_law_leant" = some (.ref fLn)
  made : mg "_law_made" = some (.ref fMd)
  b_min : mg "min" = none
theorem shaped_ref (n : Int) : SeqAt.shaped (.tuple [.str "refused", .int n]) = true := by
  have h1 : PyData.canLay0 (.tuple [.str "refused", .int n]) = true := by
    have z : PyData.canLay0 (.str "refused") = true := by decide +kernel
    simp only [PyData.canLay0, PyData.canLayAll0] at z ⊢
    simp [z]
  have h2 : PyData.depth (.tuple [.str "refused", .int n]) ≤ 64 := by
    simp [PyData.depth, PyData.depthAll]
  unfold SeqAt.shaped
  rw [h1, decide_eq_true h2]
  rfl
def spLaw (K : PySem.W.Frag) : Sp := fun vs H Q _ => ∃ (a : Addr) (ns : List Int), vs = [.ref a] ∧ SqL K H a (ns.map V.int) ∧ ns.length ≤ 63 ∧ ∀ H', Q (.bl true) H'
/-- the three ladders with their tuples, and the box -/
structure Fs (CL b l : Addr) (H : Hp) (t1 x1 t2 x2 t3 x3 : Addr) (L1 p1 L2' p2 L3 p3 : Int) : Prop where
  e1 : H t1 = some (.tup [.ref x1, .int L1, .int p1])
  l1 : Lad CL H x1 L1 p1
  e2 : H t2 = some (.tup [.ref x2, .int L2', .int p2])
  l2 : Lad CL H x2 L2' p2
  e3 : H t3 = some (.tup [.ref x3, .int L3, .int p3])
  l3 : Lad CL H x3 L3 p3
  B : Box H b l
theorem Fs.same {CL b l : Addr} {H H' : Hp} {t1 x1 t2 x2 t3 x3 : Addr} {L1 p1 L2' p2 L3 p3 : Int} (F : Fs CL b l H t1 x1 t2 x2 t3 x3 L1 p1 L2' p2 L3 p3) (s : Same H H') : Fs CL b l H' t1 x1 t2 x2 t3 x3 L1 p1 L2' p2 L3 p3 :=
  ⟨s _ _ F.e1, F.l1.same s, s _ _ F.e2, F.l2.same s, s _ _ F.e3, F.l3.same s, F.B.same s⟩
theorem Fs.drawn {CL b l : Addr} {H H' : Hp} {t1 x1 t2 x2 t3 x3 : Addr} {L1 p1 L2' p2 L3 p3 : Int} (F : Fs CL b l H t1 x1 t2 x2 t3 x3 L1 p1 L2' p2 L3 p3) (B' : Box H' b l) (k : ∀ c, c ≠ b → H' c = H c) : Fs CL b l H' t1 x1 t2 x2 t3 x3 L1 p1 L2' p2 L3 p3 := by
  have s : SameB b H H' := fun c o n e => (k c n).trans e
  exact ⟨s _ _ (F.B.neT F.e1) F.e1, F.l1.sameB F.B s, s _ _ (F.B.neT F.e2) F.e2, F.l2.sameB F.B s, s _ _ (F.B.neT F.e3) F.e3, F.l3.sameB F.B s, B'⟩
theorem sum_data (La Lb pa pb : Int) : ∃ d : PyData, (∀ (K : PySem.W.Frag) (H : Hp) (t : Addr), H t = some (.tup (sumT La Lb pa pb)) → Dp K H (.ref t) d) ∧ SeqAt.shaped d = true := by
  unfold sumT
  cases refused [La, Lb] with
  | none =>
    refine ⟨.tuple [.str "join", .int (La + Lb - 1), .int (pa + pb)], fun K H t h => .tup (SqT.of h) (.cons (.str _) (.cons (.int _) (.cons (.int _) .nil))), ?_⟩
    have h1 : PyData.canLay0 (.tuple [.str "join", .int (La + Lb - 1), .int (pa + pb)]) = true := by
      have z : PyData.canLay0 (.str "join") = true := by decide +kernel
      simp only [PyData.canLay0, PyData.canLayAll0] at z ⊢
      simp [z]
    have h2 : PyData.depth (.tuple [.str "join", .int (La + Lb - 1), .int (pa + pb)]) ≤ 64 := by
      simp [PyData.depth, PyData.depthAll]
    unfold SeqAt.shaped
    rw [h1, decide_eq_true h2]
    rfl
  | some v => exact ⟨.tuple [.str "refused", .int v], fun K H t h => .tup (SqT.of h) (.cons (.str _) (.cons (.int _) .nil)), shaped_ref v⟩
theorem ref_none {La Lb : Int} (ha : 1 < La) (hb : 1 < Lb) : refused [La, Lb] = none := by
  unfold refused
  have e2 : lst [La, Lb] = 2 := rfl
  rw [e2]
  simp
  omega
theorem reach_0 {L r : Int} (h : 0 ≤ L) (R : ReachR L 0 r) : r = L := by
  obtain ⟨q0, q1, q2⟩ := R.2 h
  have e : (0 : Int) * 0 = 0 := rfl
  rw [e, Int.sub_zero] at q1 q2
  have h1 : r ≤ L := by
    refine Int.not_lt.mp fun z => ?_
    have := Int.mul_lt_mul' (Int.le_of_lt z) z h (by omega : 0 < r)
    omega
  have h2 : L ≤ r := by
    refine Int.not_lt.mp fun z => ?_
    have := Int.mul_le_mul (by omega : r + 1 ≤ L) (by omega : r + 1 ≤ L) (by omega) h
    omega
  omega
def spCallL0 (CE CL : Addr) : Sp := fun vs H Q E => spCallL CE CL (vs ++ [.int 0]) H Q E
section
variable {P : Program} {w : World} {K : PySem.W.Frag} {mg : Str → Option Value} {base : Heap} {CE CL : Addr}
theorem scLaw : FnScope ["_law_script", "_law_box_here", "_law_one", "_law_other", "_law_third", "_law_a", "_law_b", "_law_left", "_law_right", "_law_due", "_law_stand", "_law_below"] ["_law_script"] (defScope sLaw) := ⟨rfl, rfl, rfl, by decide +kernel, rfl, by decide +kernel, by decide +kernel⟩
set_option maxHeartbeats 0 in
theorem ok_law {f fB fT fN fLd fSy fSu fJo fWh fRc fLn fMd fI fA fE fL g : Addr} {fd fdB fdT fdLd fdSy fdSu fdJo fdWh fdRc fdLn fdMd : FuncData} (F : Fun K "law" "law" sLaw f fd) (T : MTxt mg fB fLd fSy fSu fJo fWh fRc fLn fMd) (LT : LTxt mg CL fT fN)
    (GB : FnOk P w K mg base CX0 1 fB fdB ["_law_script"] (spBox K)) (FB : Fun K "_law_box" "_law_box" sBox fB fdB) (bB : Binds K fdB ["_law_script"] [])
    (GT : FnOk P w K mg base CX0 1 fT fdT ["_law_box_here", "_law_size"] spTake) (FT : Fun K "_law_take" "_law_take" sTake fT fdT) (bT : Binds K fdT ["_law_box_here", "_law_size"] [])
    (GLd : FnOk P w K mg base CX0 7 fLd fdLd ["_law_box_here"] (spLdr CL)) (FLd : Fun K "_law_ladder" "_law_ladder" sLdr fLd fdLd) (bLd : Binds K fdLd ["_law_box_here"] [])
    (GSy : FnOk P w K mg base CX0 1 fSy fdSy ["_law_told", "_law_due"] spSays) (FSy : Fun K "_law_says" "_law_says" sSays fSy fdSy) (bSy : Binds K fdSy ["_law_told", "_law_due"] [])
    (GSu : FnOk P w K mg base CX0 8 fSu fdSu ["_law_a", "_law_b"] (spSum CL)) (FSu : Fun K "_law_sum" "_law_sum" sSum fSu fdSu) (bSu : Binds K fdSu ["_law_a", "_law_b"] [])
    (GJo : FnOk P w K mg base CX0 1 fJo fdJo ["_law_one", "_law_other"] spJoi) (FJo : Fun K "_law_join" "_law_join" sJoi fJo fdJo) (bJo : Binds K fdJo ["_law_one", "_law_other"] [])
    (GWh : FnOk P w K mg base CX0 3 fWh fdWh ["_law_ladder_here", "_law_length", "_law_parts"] (spWho CL)) (FWh : Fun K "_law_whole" "_law_whole" sWho fWh fdWh) (bWh : Binds K fdWh ["_law_ladder_here", "_law_length", "_law_parts"] [])
    (GRc : FnOk P w K mg base CX0 2 fRc fdRc ["_law_told", "_law_length", "_law_stand"] spRch) (FRc : Fun K "_law_reaches" "_law_reaches" sRch fRc fdRc) (bRc : Binds K fdRc ["_law_told", "_law_length", "_law_stand"] [])
    (GLn : FnOk P w K mg base CX0 7 fLn fdLn ["_law_ladder_here", "_law_stand"] (spLnt CL)) (FLn : Fun K "_law_leant" "_law_leant" sLnt fLn fdLn) (bLn : Binds K fdLn ["_law_ladder_here", "_law_stand"] [])
    (GMd : FnOk P w K mg base CX0 7 fMd fdMd ["_law_length"] spMade) (FMd : Fun K "_law_made" "_law_made" sMade fMd fdMd) (bMd : Binds K fdMd ["_law_length"] [])
    (MK : Mk K CL fI) (GI : FnR P w K mg base (L2.CX P w) 5 fI (spInit CE CL)) (GA : FnR P w K mg base (L2.CX P w) 7 fA (spAdd CE CL)) (hsA : PySem.W.findIn K (.ref CL) "__add__" = some (some (.ref fA))) (hfA : PySem.W.isFn K (.ref fA) = true) (hcA : PySem.W.selfFirst K CL = true)
    (GE : FnR P w K mg base CX0 1 fE (spEqL CL)) (hsE : PySem.W.findIn K (.ref CL) "__eq__" = some (some (.ref fE))) (hfE : PySem.W.isFn K (.ref fE) = true) (hnE : PySem.W.findIn K (.ref CL) "__ne__" = some (some (.builtin "object.__ne__"))) (hmE : PySem.W.mroIn K CL (.type "object") = some true)
    (NE : Own.NiOk P w K mg base 1 fE (preI CL)) (hsubE : PySem.W.subIn K (.type "int") (.ref CL) = some false)
    (GL : FnR P w K mg base CX0 1 fL (spLtL CL)) (hsL : PySem.W.findIn K (.ref CL) "__lt__" = some (some (.ref fL))) (hfL : PySem.W.isFn K (.ref fL) = true)
    (CO : StX.CallO K CL g) (GCL : FnR P w K mg base (L2.CX P w) 6 g (spCallL CE CL)) (GCL0 : FnR P w K mg base (L2.CX P w) 6 g (spCallL0 CE CL)) :
    FnOk P w K mg base CX0 9 f fd ["_law_script"] (spLaw K) := by
  refine F.ok scLaw (fun vs H Q E h => ?_) (fun cdv A outer s H vs Q E hr h => ?_)
  · obtain ⟨a, ns, rfl, _⟩ := h
    rfl
  · obtain ⟨a, ns, rfl, hS, h63, k⟩ := h
    have hr1 : Room 1 _ := hr.mono (by decide)
    have hr2 : Room 2 _ := hr.mono (by decide)
    have hr3 : Room 3 _ := hr.mono (by decide)
    have hr6 : Room 6 _ := hr.mono (by decide)
    have hr7 : Room 7 _ := hr.mono (by decide)
    refine ⟨_, (pss_cons (ps_set (i := 1) scLaw.nd rfl (Or.inl rfl) (pe_call GB hr1 rfl T.box FB.kp bB .nil pass0 (pa_cons (pv 0) pa_nil)))
      (pss_cons (ps_set (i := 2) scLaw.nd rfl (Or.inl rfl) (pe_call GLd hr7 rfl T.ldr FLd.kp bLd .nil pass0 (pa_cons (pv 1) pa_nil)))
      (pss_cons (ps_set (i := 3) scLaw.nd rfl (Or.inl rfl) (pe_call GLd hr7 rfl T.ldr FLd.kp bLd .nil pass0 (pa_cons (pv 1) pa_nil)))
      (C8.pss_cut (ps_if (pt_cmpR op_eq (pe_call GT hr1 rfl LT.take FT.kp bT .nil pass0 (pa_cons (pv 1) (pa_cons pe_int pa_nil))) pe_int (nomark _)) (pss_one (ps_set (i := 3) scLaw.nd rfl (Or.inl rfl) (pe_tup (pa_cons (Own.pe_makeS (E := fun _ => E0) MK GI hr6 rfl LT.lad (passS passL) (pa_cons (pe_ix ix_tup (pv 2) pe_int (fun _ _ => rfl)) (pa_cons (pe_ix ix_tup (pv 3) pe_int (fun _ _ => rfl)) pa_nil))) (pa_cons (pe_ix ix_tup (pv 2) pe_int (fun _ _ => rfl)) (pa_cons (pe_ix ix_tup (pv 3) pe_int (fun _ _ => rfl)) pa_nil)))))) pss_nil)
      (pss_cons (ps_set (i := 4) scLaw.nd rfl (Or.inl rfl) (pe_call GLd hr7 rfl T.ldr FLd.kp bLd .nil pass0 (pa_cons (pv 1) pa_nil)))
      (pss_cons (ps_set (i := 5) scLaw.nd rfl (Or.inl rfl) (pe_ix ix_tup (pv 2) pe_int (fun _ _ => rfl)))
      (pss_cons (ps_set (i := 6) scLaw.nd rfl (Or.inl rfl) (pe_ix ix_tup (pv 3) pe_int (fun _ _ => rfl)))
      (pss_cons (ps_if (PW.pt (pw_or (pt_not (pt_val (pe_call GSy hr1 rfl T.says FSy.kp bSy .nil pass0 (pa_cons (pe_cmpR (Own.op_cmp (op := .Eq) (fun _ _ => rfl) GE hsE hfE hr1 pass0) (pv 5) (pv 6) (nomark _)) (pa_cons (pe_cmpR op_eq (pe_ix ix_tup (pv 2) pe_int (fun _ _ => rfl)) (pe_ix ix_tup (pv 3) pe_int (fun _ _ => rfl)) (nomark _)) pa_nil))))) (pw_or1 (pt_not (pt_val (pe_call GSy hr1 rfl T.says FSy.kp bSy .nil pass0 (pa_cons (pe_cmpR (Own.op_cmp (op := .Lt) (fun _ _ => rfl) GL hsL hfL hr1 pass0) (pv 5) (pv 6) (nomark _)) (pa_cons (pe_cmpR op_lt (pe_ix ix_tup (pv 2) pe_int (fun _ _ => rfl)) (pe_ix ix_tup (pv 3) pe_int (fun _ _ => rfl)) (nomark _)) pa_nil)))))))) (pss_one (ps_ret pe_bl)) pss_nil)
      (pss_cons (ps_if (PW.pt (pw_or (pt_not (pt_val (pe_call GSy hr1 rfl T.says FSy.kp bSy .nil pass0 (pa_cons (pe_cmpR (Own.op_cmp (op := .Lt) (fun _ _ => rfl) GL hsL hfL hr1 pass0) (pv 6) (pv 5) (nomark _)) (pa_cons (pe_cmpR op_lt (pe_ix ix_tup (pv 3) pe_int (fun _ _ => rfl)) (pe_ix ix_tup (pv 2) pe_int (fun _ _ => rfl)) (nomark _)) pa_nil))))) (pw_or1 (pt_not (pt_val (pe_call GSy hr1 rfl T.says FSy.kp bSy .nil pass0 (pa_cons (pe_cmpR (Own.op_ne GE hsE hnE hmE hfE hr2 pass0) (pv 5) (pv 6) (nomark _)) (pa_cons (pe_cmpR op_ne (pe_ix ix_tup (pv 2) pe_int (fun _ _ => rfl)) (pe_ix ix_tup (pv 3) pe_int (fun _ _ => rfl)) (nomark _)) pa_nil)))))))) (pss_one (ps_ret pe_bl)) pss_nil)
      (pss_cons (ps_if (pt_cmpR (Own.op_eqI (C := CL) NE hsE hfE hsubE hr1) (pv 5) (pe_ix ix_tup (pv 2) pe_int (fun _ _ => rfl)) (nomark _)) (pss_one (ps_ret pe_bl)) pss_nil)
      (pss_cons (ps_if (PW.pt (pw_or (pt_cmpR (op_neD hr.units) (pe_call GSu hr rfl T.sum FSu.kp bSu .nil pass0 (pa_cons (pv 5) (pa_cons (pv 6) pa_nil))) (pe_call GJo hr1 rfl T.joi FJo.kp bJo .nil pass0 (pa_cons (pv 2) (pa_cons (pv 3) pa_nil))) (nomark _)) (pw_or1 (pt_cmpR (op_neD hr.units) (pe_call GSu hr rfl T.sum FSu.kp bSu .nil pass0 (pa_cons (pv 6) (pa_cons (pv 5) pa_nil))) (pe_call GJo hr1 rfl T.joi FJo.kp bJo .nil pass0 (pa_cons (pv 3) (pa_cons (pv 2) pa_nil))) (nomark _))))) (pss_one (ps_ret pe_bl)) pss_nil)
      (C8.pss_cut (ps_if (pt_cmpR op_gt (pe_callB (cr_min rfl) (by rfl) T.b_min (by decide +kernel) (pa_cons (pe_lst (pa_cons (pe_ix ix_tup (pv 2) pe_int (fun _ _ => rfl)) (pa_cons (pe_ix ix_tup (pv 3) pe_int (fun _ _ => rfl)) (pa_cons (pe_ix ix_tup (pv 4) pe_int (fun _ _ => rfl)) pa_nil)))) pa_nil)) pe_int (nomark _)) (pss_cons (ps_set (i := 7) scLaw.nd rfl (Or.inl rfl) (Own.pe_binS (C := CL) (E := fun _ => E0) GA hsA hfA hcA hr7 (passS passL) (Own.pe_binS (C := CL) (E := fun _ => E0) GA hsA hfA hcA hr7 (passS passL) (pv 5) (pv 6)) (pe_ix ix_tup (pv 4) pe_int (fun _ _ => rfl))))
      (pss_cons (ps_set (i := 8) scLaw.nd rfl (Or.inl rfl) (Own.pe_binS (C := CL) (E := fun _ => E0) GA hsA hfA hcA hr7 (passS passL) (pv 5) (Own.pe_binS (C := CL) (E := fun _ => E0) GA hsA hfA hcA hr7 (passS passL) (pv 6) (pe_ix ix_tup (pv 4) pe_int (fun _ _ => rfl)))))
      (pss_cons (ps_set (i := 9) scLaw.nd rfl (Or.inl rfl) (pe_op op_sub (pe_op op_add (pe_op op_add (pe_ix ix_tup (pv 2) pe_int (fun _ _ => rfl)) (pe_ix ix_tup (pv 3) pe_int (fun _ _ => rfl))) (pe_ix ix_tup (pv 4) pe_int (fun _ _ => rfl))) pe_int))
      (pss_one (ps_if (PW.pt (pw_or (pt_not (pt_val (pe_call GWh hr3 rfl T.who FWh.kp bWh .nil pass0 (pa_cons (pv 7) (pa_cons (pv 9) (pa_cons (pe_op op_add (pe_op op_add (pe_ix ix_tup (pv 2) pe_int (fun _ _ => rfl)) (pe_ix ix_tup (pv 3) pe_int (fun _ _ => rfl))) (pe_ix ix_tup (pv 4) pe_int (fun _ _ => rfl))) pa_nil)))))) (pw_or1 (pt_cmpR (Own.op_ne GE hsE hnE hmE hfE hr2 pass0) (pv 7) (pv 8) (nomark _))))) (pss_one (ps_ret pe_bl)) pss_nil))))) pss_nil)
      (pss_cons (ps_set (i := 10) scLaw.nd rfl (Or.inl rfl) (pe_call GT hr1 rfl LT.take FT.kp bT .nil pass0 (pa_cons (pv 1) (pa_cons (pe_ix ix_list (pe_lst (pa_cons pe_int (pa_cons (pe_op op_pow pe_int pe_int) pa_nil))) (pe_call GT hr1 rfl LT.take FT.kp bT .nil pass0 (pa_cons (pv 1) (pa_cons pe_int pa_nil))) (fun _ _ => rfl)) pa_nil))))
      (pss_cons (ps_if (PW.pt (pw_or (pt_not (pt_val (pe_call GRc hr2 rfl T.rch FRc.kp bRc .nil pass0 (pa_cons (Own.pe_callIS (i := 5) (E := fun _ => E0) CO GCL hr6 (passS passL) rfl (.inl rfl) (pa_cons (pv 10) pa_nil)) (pa_cons (pe_ix ix_tup (pv 2) pe_int (fun _ _ => rfl)) (pa_cons (pv 10) pa_nil)))))) (pw_or1 (pt_cmpR op_ne (Own.pe_callIS0 (i := 5) (E := fun _ => E0) CO GCL0 hr6 (passS passL) rfl (.inl rfl)) (pe_ix ix_tup (pv 2) pe_int (fun _ _ => rfl)) (nomark _))))) (pss_one (ps_ret pe_bl)) pss_nil)
      (pss_cons (ps_set (i := 11) scLaw.nd rfl (Or.inl rfl) (pe_op op_sub (pe_un un_neg pe_int) (pe_call GT hr1 rfl LT.take FT.kp bT .nil pass0 (pa_cons (pv 1) (pa_cons pe_int pa_nil)))))
      (pss_cons (ps_if (PW.pt (pw_or (pt_cmpR (op_neD hr.units) (pe_call GLn hr7 rfl T.lnt FLn.kp bLn .nil pass0 (pa_cons (pv 6) (pa_cons (pv 11) pa_nil))) (pe_tup (pa_cons pe_str (pa_cons (pv 11) pa_nil))) (nomark _)) (pw_or1 (pt_cmpR op_ne (pe_call GMd hr7 rfl T.made FMd.kp bMd .nil pass0 (pa_cons (pv 11) pa_nil)) (pv 11) (nomark _))))) (pss_one (ps_ret pe_bl)) pss_nil)
      (pss_one (ps_ret (pe_and (pe_call GWh hr3 rfl T.who FWh.kp bWh .nil pass0 (pa_cons (pv 5) (pa_cons (pe_ix ix_tup (pv 2) pe_int (fun _ _ => rfl)) (pa_cons (pe_ix ix_tup (pv 2) pe_int (fun _ _ => rfl)) pa_nil)))) (pe_one (pe_call GWh hr3 rfl T.who FWh.kp bWh .nil pass0 (pa_cons (pv 6) (pa_cons (pe_ix ix_tup (pv 3) pe_int (fun _ _ => rfl)) (pa_cons (pe_ix ix_tup (pv 3) pe_int (fun _ _ => rfl)) pa_nil)))))))))))))))))))))))), ?_⟩
    have z20 : ∀ {x : Int}, 0 ≤ x → x ≤ 10 ^ 20 → x.natAbs ≤ 10 ^ 42 := fun {x} h1 h2 => by omega
    have z9 : ∀ {x : Int}, 0 ≤ x → x ≤ 10 ^ 20 → x.natAbs < 2 ^ 900 := fun {x} h1 h2 => Nat.lt_of_le_of_lt (z20 h1 h2) (by decide +kernel)
    have z10 : ∀ {x : Int}, x.natAbs ≤ 10 ^ 42 → x.natAbs < 2 ^ 1000 := fun {x} h1 => Nat.lt_of_le_of_lt h1 (by decide +kernel)
    refine ⟨_, rfl, a, ns, rfl, hS, h63, fun b l H1 B1 nb nl s1 => ?_⟩
    refine ⟨_, rfl, b, l, rfl, B1, fun L1 p1 x1 t1 H2 a0 a1 b0 b1 l1 e1 B2 s2 => ?_⟩
    refine ⟨_, rfl, b, l, rfl, B2, fun M2 q2 y2 u2 H3 c0 c1 d0 d1 l2 e2 B3 s3 => ?_⟩
    have e1 := s3 _ _ (B2.neT e1) e1
    have l1 := l1.sameB B2 s3
    -- the second one may be of the same length
    refine ⟨fun σ' H' => ∃ (L2' p2 : Int) (x2 t2 : Addr), σ' = [some (.ref a), some (.ref b), some (.ref t1), some (.ref t2), none, none, none, none, none, none, none, none] ∧ 0 ≤ L2' ∧ L2' ≤ 10 ^ 20 ∧ 1 ≤ p2 ∧ p2 ≤ 5 ∧
      H' t1 = some (.tup [.ref x1, .int L1, .int p1]) ∧ Lad CL H' x1 L1 p1 ∧ H' t2 = some (.tup [.ref x2, .int L2', .int p2]) ∧ Lad CL H' x2 L2' p2 ∧ Box H' b l, ?_, ?_⟩
    · refine ⟨_, rfl, b, l, _, rfl, B3, by decide, by decide, fun q H4 f0 f1 B4 k4 => ⟨rfl, _, rfl, ?_⟩⟩
      have s4 : SameB b H3 H4 := fun c o n e => (k4 c n).trans e
      have e1 := s4 _ _ (B3.neT e1) e1
      have e2 := s4 _ _ (B3.neT e2) e2
      have l1 := l1.sameB B3 s4
      have l2 := l2.sameB B3 s4
      refine ite2 (fun _ => ?_) fun _ => ⟨M2, q2, y2, u2, rfl, c0, c1, d0, d1, e1, l1, e2, l2, B4⟩
      refine ⟨_, rfl, t1, _, _, _, rfl, rfl, SqT.of e1, rfl, _, rfl, u2, _, _, _, rfl, rfl, SqT.of e2, rfl, ?_⟩
      refine mk_lad (z10 (z20 a0 a1)) (fun z => absurd z (by omega)) fun _ x H5 hx S hl => ?_
      refine ⟨_, rfl, t1, _, _, _, rfl, rfl, SqT.of (S _ _ e1), rfl, _, rfl, u2, _, _, _, rfl, rfl, SqT.of (S _ _ e2), rfl, by show 3 ≤ sizeLine; decide, fun t ht => ?_⟩
      have S' := same_new (o := .tup [V.ref x, .int L1, .int q2]) ht
      exact ⟨L1, q2, x, t, rfl, a0, a1, d0, d1, S' _ _ (S _ _ e1), (l1.same S).same S', upd_same, hl.same S', (B4.same S).same S'⟩
    clear e1 l1 e2 l2 B1 B2 B3 s2 s3 c0 c1 d0 d1
    rintro σ' H4 ⟨L2', p2, x2, t2, rfl, c0, c1, d0, d1, e1, l1, e2, l2, B4⟩
    refine ⟨_, rfl, b, l, rfl, B4, fun L3 p3 x3 t3 H5 f0 f1 g0 g1 l3 e3 B5 s5 => ?_⟩
    have FS : Fs CL b l H5 t1 x1 t2 x2 t3 x3 L1 p1 L2' p2 L3 p3 := ⟨s5 _ _ (B4.neT e1) e1, l1.sameB B4 s5, s5 _ _ (B4.neT e2) e2, l2.sameB B4 s5, e3, l3, B5⟩
    clear e1 l1 e2 l2 e3 l3 B4 B5 s5
    refine ⟨_, rfl, t1, _, _, _, rfl, rfl, SqT.of FS.e1, rfl, ?_⟩
    refine ⟨_, rfl, t2, _, _, _, rfl, rfl, SqT.of FS.e2, rfl, ?_⟩
    obtain ⟨dx1, fs1, o1, -, -⟩ := id FS.l1
    obtain ⟨dx2, fs2, o2, -, -⟩ := id FS.l2
    -- comparisons
    refine ⟨_, rfl, _, rfl, x1, x2, dx1, dx2, fs1, fs2, rfl, rfl, o1, o2, x1, x2, L1, L2', p1, p2, rfl, FS.l1, FS.l2, ?_⟩
    refine ⟨_, rfl, t1, _, _, _, rfl, rfl, SqT.of FS.e1, rfl, _, rfl, t2, _, _, _, rfl, rfl, SqT.of FS.e2, rfl, rfl, _, _, rfl, _, rfl, if_f (by simp) ?_⟩
    refine ⟨_, rfl, _, rfl, x1, x2, dx1, dx2, fs1, fs2, rfl, rfl, o1, o2, x1, x2, L1, L2', p1, p2, rfl, FS.l1, FS.l2, ?_⟩
    refine ⟨_, rfl, t1, _, _, _, rfl, rfl, SqT.of FS.e1, rfl, _, rfl, t2, _, _, _, rfl, rfl, SqT.of FS.e2, rfl, _, _, rfl, rfl, _, _, rfl, _, rfl, if_f (by simp) ?_⟩
    refine ⟨_, rfl, _, rfl, x2, x1, dx2, dx1, fs2, fs1, rfl, rfl, o2, o1, x2, x1, L2', L1, p2, p1, rfl, FS.l2, FS.l1, ?_⟩
    refine ⟨_, rfl, t2, _, _, _, rfl, rfl, SqT.of FS.e2, rfl, _, rfl, t1, _, _, _, rfl, rfl, SqT.of FS.e1, rfl, _, _, rfl, rfl, _, _, rfl, _, rfl, if_f (by simp) ?_⟩
    refine ⟨_, rfl, _, rfl, x1, x2, dx1, dx2, fs1, fs2, rfl, rfl, o1, o2, x1, x2, L1, L2', p1, p2, rfl, FS.l1, FS.l2, _, rfl, ?_⟩
    refine ⟨_, rfl, t1, _, _, _, rfl, rfl, SqT.of FS.e1, rfl, _, rfl, t2, _, _, _, rfl, rfl, SqT.of FS.e2, rfl, rfl, _, _, rfl, _, rfl, if_f (by simp) ?_⟩
    refine ⟨_, rfl, _, rfl, t1, _, _, _, rfl, rfl, SqT.of FS.e1, rfl, x1, dx1, fs1, L1, rfl, rfl, o1, ⟨x1, dx1, fs1, L1, rfl, o1⟩, _, rfl, if_f rfl ?_⟩
    -- joins
    obtain ⟨d12, hd12, sd12⟩ := sum_data L1 L2' p1 p2
    obtain ⟨d21, hd21, sd21⟩ := sum_data L2' L1 p2 p1
    refine ⟨_, rfl, _, rfl, x1, x2, L1, L2', p1, p2, rfl, FS.l1, FS.l2, a0, c0, z9 a0 a1, z9 c0 c1, fun t5 H6 S6 e5 => ?_⟩
    have FS := FS.same S6
    refine ⟨_, rfl, _, rfl, t1, t2, x1, x2, L1, L2', p1, p2, rfl, FS.e1, FS.e2, fun t6 H7 S7 e6 => ?_⟩
    have FS := FS.same S7
    refine ⟨d12, d12, hd12 _ _ _ (S7 _ _ e5), hd12 _ _ _ e6, sd12, sd12, _, rfl, if_f (by rw [SeqAt.eqv_refl _ (SeqAt.canLay_of_shaped sd12)]; rfl) ?_⟩
    clear e5 e6 S6 S7
    refine ⟨_, rfl, _, rfl, x2, x1, L2', L1, p2, p1, rfl, FS.l2, FS.l1, c0, a0, z9 c0 c1, z9 a0 a1, fun t5 H8 S6 e5 => ?_⟩
    have FS := FS.same S6
    refine ⟨_, rfl, _, rfl, t2, t1, x2, x1, L2', L1, p2, p1, rfl, FS.e2, FS.e1, fun t6 H9 S7 e6 => ?_⟩
    have FS := FS.same S7
    refine ⟨d21, d21, hd21 _ _ _ (S7 _ _ e5), hd21 _ _ _ e6, sd21, sd21, _, rfl, if_f (by rw [SeqAt.eqv_refl _ (SeqAt.canLay_of_shaped sd21)]; rfl) ?_⟩
    clear e5 e6 S6 S7 o1 o2
    -- three of them
    refine ⟨fun σ' H' => ∃ v7 v8 v9 : Option V, σ' = [some (.ref a), some (.ref b), some (.ref t1), some (.ref t2), some (.ref t3), some (.ref x1), some (.ref x2), v7, v8, v9, none, none] ∧ Fs CL b l H' t1 x1 t2 x2 t3 x3 L1 p1 L2' p2 L3 p3, ?_, ?_⟩
    · refine ⟨_, rfl, t1, _, _, _, rfl, rfl, SqT.of FS.e1, rfl, _, rfl, t2, _, _, _, rfl, rfl, SqT.of FS.e2, rfl, _, rfl, t3, _, _, _, rfl, rfl, SqT.of FS.e3, rfl, by show 3 ≤ sizeLine; decide, fun p hp => ?_⟩
      have FS := FS.same (same_new (o := .lst [V.int L1, V.int L2', V.int L3]) hp)
      refine ⟨p, [L1, L2', L3], rfl, SqL.of upd_same, by show 0 < 3; decide, fun m hm hmin => ?_⟩
      generalize upd H9 p (.lst [V.int L1, V.int L2', V.int L3]) = HA at FS ⊢
      refine ⟨_, _, rfl, rfl, _, rfl, ?_⟩
      by_cases c : 1 < m
      · refine if_t (decide_eq_true c) ?_
        have m1 := hmin L1 (by simp)
        have m2 := hmin L2' (by simp)
        have m3 := hmin L3 (by simp)
        have r12 : refused [L1, L2'] = none := ref_none (by omega) (by omega)
        have r123 : refused [L1 + L2' - 1, L3] = none := ref_none (by omega) (by omega)
        have r23 : refused [L2', L3] = none := ref_none (by omega) (by omega)
        have r1_23 : refused [L1, L2' + L3 - 1] = none := ref_none (by omega) (by omega)
        have z9' : ∀ {x : Int}, 0 ≤ x → x ≤ 10 ^ 21 → x.natAbs < 2 ^ 900 := fun {x} h1 h2 => Nat.lt_of_le_of_lt (show x.natAbs ≤ 10 ^ 42 by omega) (by decide +kernel)
        obtain ⟨dx1, fs1, o1, -, -⟩ := id FS.l1
        obtain ⟨dx2, fs2, o2, -, -⟩ := id FS.l2
        refine ⟨_, rfl, _, rfl, x1, x2, dx1, dx2, fs1, fs2, rfl, rfl, o1, o2, x1, x2, L1, L2', p1, p2, rfl, FS.l1, FS.l2, a0, c0, z9 a0 a1, z9 c0 c1, fun v hv => (by rw [r12] at hv; cases hv), fun _ x5 HB hx5 S5 l5 => ?_⟩
        have FS := FS.same S5
        obtain ⟨dx3, fs3, o3, -, -⟩ := id FS.l3
        obtain ⟨dx5, fs5, o5, -, -⟩ := id l5
        refine ⟨_, rfl, t3, _, _, _, rfl, rfl, SqT.of FS.e3, rfl, x5, x3, dx5, dx3, fs5, fs3, rfl, rfl, o5, o3, x5, x3, L1 + L2' - 1, L3, p1 + p2, p3, rfl, l5, FS.l3, by omega, f0, z9' (by omega) (by omega), z9 f0 f1, fun v hv => (by rw [r123] at hv; cases hv), fun _ x6 HC hx6 S6 l6 => ?_⟩
        have FS := FS.same S6
        obtain ⟨dx2', fs2', o2', -, -⟩ := id FS.l2
        obtain ⟨dx3', fs3', o3', -, -⟩ := id FS.l3
        refine ⟨_, rfl, _, rfl, _, rfl, t3, _, _, _, rfl, rfl, SqT.of FS.e3, rfl, x2, x3, dx2', dx3', fs2', fs3', rfl, rfl, o2', o3', x2, x3, L2', L3, p2, p3, rfl, FS.l2, FS.l3, c0, f0, z9 c0 c1, z9 f0 f1, fun v hv => (by rw [r23] at hv; cases hv), fun _ x7 HD hx7 S7 l7 => ?_⟩
        have FS := FS.same S7
        have l6 := l6.same S7
        obtain ⟨dx1', fs1', o1', -, -⟩ := id FS.l1
        obtain ⟨dx7, fs7, o7, -, -⟩ := id l7
        refine ⟨x1, x7, dx1', dx7, fs1', fs7, rfl, rfl, o1', o7, x1, x7, L1, L2' + L3 - 1, p1, p2 + p3, rfl, FS.l1, l7, a0, by omega, z9 a0 a1, z9' (by omega) (by omega), fun v hv => (by rw [r1_23] at hv; cases hv), fun _ x8 HE hx8 S8 l8 => ?_⟩
        have FS := FS.same S8
        have l6 := l6.same S8
        have ed : L1 + L2' - 1 + L3 - 1 = L1 + L2' + L3 - 2 := by omega
        rw [ed] at l6
        refine ⟨_, rfl, t1, _, _, _, rfl, rfl, SqT.of FS.e1, rfl, _, rfl, t2, _, _, _, rfl, rfl, SqT.of FS.e2, rfl, _, _, rfl, rfl, _, rfl, t3, _, _, _, rfl, rfl, SqT.of FS.e3, rfl, _, _, rfl, rfl, _, _, rfl, rfl, ?_⟩
        refine ⟨_, rfl, _, rfl, _, rfl, t1, _, _, _, rfl, rfl, SqT.of FS.e1, rfl, _, rfl, t2, _, _, _, rfl, rfl, SqT.of FS.e2, rfl, _, _, rfl, rfl, _, rfl, t3, _, _, _, rfl, rfl, SqT.of FS.e3, rfl, _, _, rfl, rfl, ?_⟩
        refine ⟨x6, L1 + L2' + L3 - 2, p1 + p2 + p3, rfl, l6, z10 (by omega), z10 (by omega), true, rfl, if_f rfl ?_⟩
        obtain ⟨dx6, fs6, o6, -, -⟩ := id l6
        obtain ⟨dx8, fs8, o8, -, -⟩ := id l8
        refine ⟨_, rfl, _, rfl, x6, x8, dx6, dx8, fs6, fs8, rfl, rfl, o6, o8, x6, x8, L1 + L2' + L3 - 2, L1 + (L2' + L3 - 1) - 1, p1 + p2 + p3, p1 + (p2 + p3), rfl, l6, l8, _, rfl, _, rfl, if_f (by simp; omega) ?_⟩
        exact ⟨_, _, _, rfl, FS⟩
      · exact if_f (decide_eq_false c) ⟨_, _, _, rfl, FS⟩
    clear FS
    rintro σ' HA ⟨v7, v8, v9, rfl, FS⟩
    -- leant
    refine ⟨_, rfl, _, _, rfl, rfl, pow_ok (by decide), by show 2 ≤ sizeLine; decide, fun d hd => ?_⟩
    have FS := FS.same (same_new (o := .lst [V.int 10, V.int (10 ^ Int.toNat 20)]) hd)
    refine ⟨_, rfl, b, l, _, rfl, FS.B, by decide, by decide, fun j HB j0 j1 BB kB => ?_⟩
    have ndb : d ≠ b := fun z => by
      obtain ⟨_, _, _, _, q, _⟩ := FS.B
      rw [← z, upd_same] at q
      have q' := HO.lst.inj (Option.some.inj q)
      cases q'
    have hdB := (kB d ndb).trans upd_same
    have FS := FS.drawn BB kB
    obtain ⟨y, ey, y0, y1⟩ : ∃ y : Int, atI [V.int 10, V.int (10 ^ Int.toNat 20)] j = some (.int y) ∧ 0 < y ∧ y ≤ 10 ^ 20 := by
      have : j = 0 ∨ j = 1 := by omega
      rcases this with rfl | rfl
      · exact ⟨10, rfl, by decide, by decide +kernel⟩
      · exact ⟨10 ^ 20, rfl, by decide +kernel, by decide +kernel⟩
    refine ⟨d, _, _, _, rfl, rfl, SqL.of hdB, ey, b, l, _, rfl, FS.B, y0, size_fit y0 (by omega), fun st HC s0 s1' BC kC => ?_⟩
    have FS := FS.drawn BC kC
    clear hdB BB kB BC kC
    obtain ⟨dx1, fs1, o1, -, -⟩ := id FS.l1
    have hst : Sz st := Sz.of (by omega)
    refine ⟨x1, rfl, _, rfl, ⟨dx1, fs1, o1⟩, x1, L1, p1, st, rfl, FS.l1, Sz.of (z20 a0 a1), hst, a0, fun z => absurd z (by omega), fun _ r hrr => ?_⟩
    refine ⟨_, rfl, t1, _, _, _, rfl, rfl, SqT.of FS.e1, rfl, _, rfl, r, L1, st, rfl, Sz.of (z20 a0 a1), hst, a0, s0, hrr, true, rfl, if_f rfl ?_⟩
    refine ⟨x1, rfl, ⟨dx1, fs1, o1⟩, x1, L1, p1, 0, rfl, FS.l1, Sz.of (z20 a0 a1), Sz.of (by decide), a0, fun z => absurd z (by decide), fun _ r0 hr0 => ?_⟩
    have er := reach_0 a0 hr0
    refine ⟨_, rfl, t1, _, _, _, rfl, rfl, SqT.of FS.e1, rfl, rfl, _, rfl, if_f (by simp [er]) ?_⟩
    -- refused
    refine ⟨_, rfl, _, rfl, b, l, _, rfl, FS.B, by decide, by decide, fun q HD q0 q1 BD kD => ⟨_, _, rfl, rfl, ?_⟩⟩
    have FS := FS.drawn BD kD
    refine ⟨_, rfl, _, rfl, x2, L2', p2, -1 - q, rfl, FS.l2, Sz.of (z20 c0 c1), Sz.of (by omega), c0, by omega, fun t7 HE S7 e7 => ?_⟩
    have FS := FS.same S7
    refine ⟨_, rfl, by show 2 ≤ sizeLine; decide, fun t8 ht8 => ?_⟩
    have S8 := same_new (o := .tup [V.str "refused", V.int (-1 - q)]) ht8
    have FS := FS.same S8
    refine ⟨_, _, .tup (SqT.of (S8 _ _ e7)) (.cons (.str _) (.cons (.int _) .nil)), .tup (SqT.of upd_same) (.cons (.str _) (.cons (.int _) .nil)), shaped_ref _, shaped_ref _, _, rfl, if_f (by rw [SeqAt.eqv_refl _ (SeqAt.canLay_of_shaped (shaped_ref _))]; rfl) ?_⟩
    refine ⟨_, rfl, -1 - q, rfl, by omega, Nat.lt_of_le_of_lt (show (-1 - q).natAbs ≤ 10 ^ 42 by omega) (by decide +kernel), fun HF S9 => ?_⟩
    have FS := FS.same S9
    refine ⟨_, rfl, rfl, _, rfl, if_f (by simp) ?_⟩
    refine ⟨_, rfl, _, rfl, t1, _, _, _, rfl, rfl, SqT.of FS.e1, rfl, _, rfl, t1, _, _, _, rfl, rfl, SqT.of FS.e1, rfl, x1, L1, p1, rfl, FS.l1, z10 (z20 a0 a1), z10 (by omega), true, rfl, if_t rfl ?_⟩
    exact ⟨_, rfl, _, rfl, t2, _, _, _, rfl, rfl, SqT.of FS.e2, rfl, _, rfl, t2, _, _, _, rfl, rfl, SqT.of FS.e2, rfl, x2, L2', p2, rfl, FS.l2, z10 (z20 c0 c1), z10 (by omega), k _⟩

end
end Law

namespace Law
open PySem PySem.Spec PyProof.Rows L2 Sup NdefX

theorem all_mk {P : Program} {w : World} {K : PySem.W.Frag} {h : Heap} {mg : Str → Option Value} {fa : Addr} (X : K.In h) (G : h.Ns mainGlobals mg) (hfa : mg "law" = some (.ref fa)) (htop : (P.main.scope.names.lookup ("super" : Str)).isSome = false)
    {fK : Addr} {odK anK : Option Addr} {slK : Array (Option Value)} {ocK kVK dcK pmK cdK ctK : Value}
    {fF : Addr} {odF anF : Option Addr} {slF : Array (Option Value)} {ocF kVF dcF pmF cdF ctF : Value}
    {DTF : Addr} {xoF : Value} {xdF : Option Addr} {xsF : Array (Option Value)} {xnF : Nat} {tkF : Tok}
    {fJ : Addr} {odJ anJ : Option Addr} {slJ : Array (Option Value)} {ocJ kVJ dcJ pmJ cdJ ctJ : Value}
    {fMi : Addr} {odMi anMi : Option Addr} {slMi : Array (Option Value)} {ocMi kVMi dcMi pmMi cdMi ctMi : Value}
    {DTMi : Addr} {xoMi : Value} {xdMi : Option Addr} {xsMi : Array (Option Value)} {xnMi : Nat} {tkI : Tok}
    {fMa : Addr} {odMa anMa : Option Addr} {slMa : Array (Option Value)} {ocMa kVMa dcMa pmMa cdMa ctMa : Value}
    {fMe : Addr} {odMe anMe : Option Addr} {slMe : Array (Option Value)} {ocMe kVMe dcMe pmMe cdMe ctMe : Value}
    {fMl : Addr} {odMl anMl : Option Addr} {slMl : Array (Option Value)} {ocMl kVMl dcMl pmMl cdMl ctMl : Value}
    {fMr : Addr} {odMr anMr : Option Addr} {slMr : Array (Option Value)} {ocMr kVMr dcMr pmMr cdMr ctMr : Value}
    {fMc : Addr} {odMc anMc : Option Addr} {slMc : Array (Option Value)} {ocMc kVMc dcMc pmMc cdMc ctMc : Value}
    {DTMc : Addr} {xoMc : Value} {xdMc : Option Addr} {xsMc : Array (Option Value)} {xnMc : Nat} {tkC : Tok}
    {fB : Addr} {odB anB : Option Addr} {slB : Array (Option Value)} {ocB kVB dcB pmB cdB ctB : Value}
    {fT : Addr} {odT anT : Option Addr} {slT : Array (Option Value)} {ocT kVT dcT pmT cdT ctT : Value}
    {fN : Addr} {odN anN : Option Addr} {slN : Array (Option Value)} {ocN kVN dcN pmN cdN ctN : Value}
    {fSy : Addr} {odSy anSy : Option Addr} {slSy : Array (Option Value)} {ocSy kVSy dcSy pmSy cdSy ctSy : Value}
    {fLd : Addr} {odLd anLd : Option Addr} {slLd : Array (Option Value)} {ocLd kVLd dcLd pmLd cdLd ctLd : Value}
    {fSu : Addr} {odSu anSu : Option Addr} {slSu : Array (Option Value)} {ocSu kVSu dcSu pmSu cdSu ctSu : Value}
    {fMd : Addr} {odMd anMd : Option Addr} {slMd : Array (Option Value)} {ocMd kVMd dcMd pmMd cdMd ctMd : Value}
    {fLn : Addr} {odLn anLn : Option Addr} {slLn : Array (Option Value)} {ocLn kVLn dcLn pmLn cdLn ctLn : Value}
    {fRc : Addr} {odRc anRc : Option Addr} {slRc : Array (Option Value)} {ocRc kVRc dcRc pmRc cdRc ctRc : Value}
    {fWh : Addr} {odWh anWh : Option Addr} {slWh : Array (Option Value)} {ocWh kVWh dcWh pmWh cdWh ctWh : Value}
    {fJo : Addr} {odJo anJo : Option Addr} {slJo : Array (Option Value)} {ocJo kVJo dcJo pmJo cdJo ctJo : Value}
    {fL : Addr} {odL anL : Option Addr} {slL : Array (Option Value)} {ocL kVL dcL pmL cdL ctL : Value}
    {CE BE fiE cdE ccE NE : Addr} {nmE qE : Str} {bsE : List Value} {snE : List Str} {subE : List Value} {abE : Bool} {colE : Option Bool} {ddE : Option Addr} {m0E m1E m2E m3E m5E : Option Value}
    {odE anE dkE deE : Option Addr} {slE skE seE : Array (Option Value)} {ocE kVE dcE pmE ctE ckE ceE : Value} {vkE : Array Value} {flE : Str} {tfE : Tok}
    {CLadder : Addr} {tkO : Tok}
    (aCL : PySem.W.nsIn K mainGlobals "Ladder" = some (some (.ref CLadder)))
    (aK : PySem.W.nsIn K mainGlobals "check_not_negative" = some (some (.ref fK)))
    (lK : K.lookup fK = some ⟨ocK, odK, .func (PySem.W.fnOf "check_not_negative" "check_not_negative" (defArgs sChk) (defBody sChk) (defScope sChk) .none kVK dcK pmK anK cdK ctK), slK⟩)
    (cK : PySem.W.codeIn K cdK "check_not_negative" = true)
    (kK : PySem.W.keepIn K (.ref fK) = true)
    (aF : PySem.W.nsIn K mainGlobals "reach" = some (some (.ref fF)))
    (lF : K.lookup fF = some ⟨ocF, odF, .func (PySem.W.fnOf "reach" "reach" (defArgs sReach) (defBody sReach) (defScope sReach) (.ref DTF) kVF dcF pmF anF cdF ctF), slF⟩)
    (cF : PySem.W.codeIn K cdF "reach" = true)
    (kF : PySem.W.keepIn K (.ref fF) = true)
    (dF : K.lookup DTF = some ⟨xoF, xdF, .seq #[.int 0 tkF] xnF, xsF⟩)
    (aJ : PySem.W.nsIn K mainGlobals "joined_length" = some (some (.ref fJ)))
    (lJ : K.lookup fJ = some ⟨ocJ, odJ, .func (PySem.W.fnOf "joined_length" "joined_length" (defArgs sJoin) (defBody sJoin) (defScope sJoin) .none kVJ dcJ pmJ anJ cdJ ctJ), slJ⟩)
    (cJ : PySem.W.codeIn K cdJ "joined_length" = true)
    (kJ : PySem.W.keepIn K (.ref fJ) = true)
    (aMi : PySem.W.findIn K (.ref CLadder) "__init__" = some (some (.ref fMi)))
    (lMi : K.lookup fMi = some ⟨ocMi, odMi, .func (PySem.W.fnOf "__init__" "Ladder.__init__" (defArgs sInit) (defBody sInit) (defScope sInit) (.ref DTMi) kVMi dcMi pmMi anMi cdMi ctMi), slMi⟩)
    (cMi : PySem.W.codeIn K cdMi "Ladder.__init__" = true)
    (kMi : PySem.W.keepIn K (.ref fMi) = true)
    (iMi : PySem.W.isFn K (.ref fMi) = true)
    (dMi : K.lookup DTMi = some ⟨xoMi, xdMi, .seq #[.int 1 tkI] xnMi, xsMi⟩)
    (aMa : PySem.W.findIn K (.ref CLadder) "__add__" = some (some (.ref fMa)))
    (lMa : K.lookup fMa = some ⟨ocMa, odMa, .func (PySem.W.fnOf "__add__" "Ladder.__add__" (defArgs sAdd) (defBody sAdd) (defScope sAdd) .none kVMa dcMa pmMa anMa cdMa ctMa), slMa⟩)
    (cMa : PySem.W.codeIn K cdMa "Ladder.__add__" = true)
    (kMa : PySem.W.keepIn K (.ref fMa) = true)
    (iMa : PySem.W.isFn K (.ref fMa) = true)
    (aMe : PySem.W.findIn K (.ref CLadder) "__eq__" = some (some (.ref fMe)))
    (lMe : K.lookup fMe = some ⟨ocMe, odMe, .func (PySem.W.fnOf "__eq__" "Ladder.__eq__" (defArgs sEq) (defBody sEq) (defScope sEq) .none kVMe dcMe pmMe anMe cdMe ctMe), slMe⟩)
    (cMe : PySem.W.codeIn K cdMe "Ladder.__eq__" = true)
    (kMe : PySem.W.keepIn K (.ref fMe) = true)
    (iMe : PySem.W.isFn K (.ref fMe) = true)
    (aMl : PySem.W.findIn K (.ref CLadder) "__lt__" = some (some (.ref fMl)))
    (lMl : K.lookup fMl = some ⟨ocMl, odMl, .func (PySem.W.fnOf "__lt__" "Ladder.__lt__" (defArgs sLt) (defBody sLt) (defScope sLt) .none kVMl dcMl pmMl anMl cdMl ctMl), slMl⟩)
    (cMl : PySem.W.codeIn K cdMl "Ladder.__lt__" = true)
    (kMl : PySem.W.keepIn K (.ref fMl) = true)
    (iMl : PySem.W.isFn K (.ref fMl) = true)
    (aMr : PySem.W.findIn K (.ref CLadder) "__repr__" = some (some (.ref fMr)))
    (lMr : K.lookup fMr = some ⟨ocMr, odMr, .func (PySem.W.fnOf "__repr__" "Ladder.__repr__" (defArgs sRepr) (defBody sRepr) (defScope sRepr) .none kVMr dcMr pmMr anMr cdMr ctMr), slMr⟩)
    (cMr : PySem.W.codeIn K cdMr "Ladder.__repr__" = true)
    (kMr : PySem.W.keepIn K (.ref fMr) = true)
    (iMr : PySem.W.isFn K (.ref fMr) = true)
    (aMc : PySem.W.findIn K (.ref CLadder) "__call__" = some (some (.ref fMc)))
    (lMc : K.lookup fMc = some ⟨ocMc, odMc, .func (PySem.W.fnOf "__call__" "Ladder.__call__" (defArgs sCallL) (defBody sCallL) (defScope sCallL) (.ref DTMc) kVMc dcMc pmMc anMc cdMc ctMc), slMc⟩)
    (cMc : PySem.W.codeIn K cdMc "Ladder.__call__" = true)
    (kMc : PySem.W.keepIn K (.ref fMc) = true)
    (iMc : PySem.W.isFn K (.ref fMc) = true)
    (dMc : K.lookup DTMc = some ⟨xoMc, xdMc, .seq #[.int 0 tkC] xnMc, xsMc⟩)
    (aB : PySem.W.nsIn K mainGlobals "_law_box" = some (some (.ref fB)))
    (lB : K.lookup fB = some ⟨ocB, odB, .func (PySem.W.fnOf "_law_box" "_law_box" (defArgs sBox) (defBody sBox) (defScope sBox) .none kVB dcB pmB anB cdB ctB), slB⟩)
    (cB : PySem.W.codeIn K cdB "_law_box" = true)
    (kB : PySem.W.keepIn K (.ref fB) = true)
    (aT : PySem.W.nsIn K mainGlobals "_law_take" = some (some (.ref fT)))
    (lT : K.lookup fT = some ⟨ocT, odT, .func (PySem.W.fnOf "_law_take" "_law_take" (defArgs sTake) (defBody sTake) (defScope sTake) .none kVT dcT pmT anT cdT ctT), slT⟩)
    (cT : PySem.W.codeIn K cdT "_law_take" = true)
    (kT : PySem.W.keepIn K (.ref fT) = true)
    (aN : PySem.W.nsIn K mainGlobals "_law_number" = some (some (.ref fN)))
    (lN : K.lookup fN = some ⟨ocN, odN, .func (PySem.W.fnOf "_law_number" "_law_number" (defArgs sNum) (defBody sNum) (defScope sNum) .none kVN dcN pmN anN cdN ctN), slN⟩)
    (cN : PySem.W.codeIn K cdN "_law_number" = true)
    (kN : PySem.W.keepIn K (.ref fN) = true)
    (aSy : PySem.W.nsIn K mainGlobals "_law_says" = some (some (.ref fSy)))
    (lSy : K.lookup fSy = some ⟨ocSy, odSy, .func (PySem.W.fnOf "_law_says" "_law_says" (defArgs sSays) (defBody sSays) (defScope sSays) .none kVSy dcSy pmSy anSy cdSy ctSy), slSy⟩)
    (cSy : PySem.W.codeIn K cdSy "_law_says" = true)
    (kSy : PySem.W.keepIn K (.ref fSy) = true)
    (aLd : PySem.W.nsIn K mainGlobals "_law_ladder" = some (some (.ref fLd)))
    (lLd : K.lookup fLd = some ⟨ocLd, odLd, .func (PySem.W.fnOf "_law_ladder" "_law_ladder" (defArgs sLdr) (defBody sLdr) (defScope sLdr) .none kVLd dcLd pmLd anLd cdLd ctLd), slLd⟩)
    (cLd : PySem.W.codeIn K cdLd "_law_ladder" = true)
    (kLd : PySem.W.keepIn K (.ref fLd) = true)
    (aSu : PySem.W.nsIn K mainGlobals "_law_sum" = some (some (.ref fSu)))
    (lSu : K.lookup fSu = some ⟨ocSu, odSu, .func (PySem.W.fnOf "_law_sum" "_law_sum" (defArgs sSum) (defBody sSum) (defScope sSum) .none kVSu dcSu pmSu anSu cdSu ctSu), slSu⟩)
    (cSu : PySem.W.codeIn K cdSu "_law_sum" = true)
    (kSu : PySem.W.keepIn K (.ref fSu) = true)
    (aMd : PySem.W.nsIn K mainGlobals "_law_made" = some (some (.ref fMd)))
    (lMd : K.lookup fMd = some ⟨ocMd, odMd, .func (PySem.W.fnOf "_law_made" "_law_made" (defArgs sMade) (defBody sMade) (defScope sMade) .none kVMd dcMd pmMd anMd cdMd ctMd), slMd⟩)
    (cMd : PySem.W.codeIn K cdMd "_law_made" = true)
    (kMd : PySem.W.keepIn K (.ref fMd) = true)
    (aLn : PySem.W.nsIn K mainGlobals "_law_leant" = some (some (.ref fLn)))
    (lLn : K.lookup fLn = some ⟨ocLn, odLn, .func (PySem.W.fnOf "_law_leant" "_law_leant" (defArgs sLnt) (defBody sLnt) (defScope sLnt) .none kVLn dcLn pmLn anLn cdLn ctLn), slLn⟩)
    (cLn : PySem.W.codeIn K cdLn "_law_leant" = true)
    (kLn : PySem.W.keepIn K (.ref fLn) = true)
    (aRc : PySem.W.nsIn K mainGlobals "_law_reaches" = some (some (.ref fRc)))
    (lRc : K.lookup fRc = some ⟨ocRc, odRc, .func (PySem.W.fnOf "_law_reaches" "_law_reaches" (defArgs sRch) (defBody sRch) (defScope sRch) .none kVRc dcRc pmRc anRc cdRc ctRc), slRc⟩)
    (cRc : PySem.W.codeIn K cdRc "_law_reaches" = true)
    (kRc : PySem.W.keepIn K (.ref fRc) = true)
    (aWh : PySem.W.nsIn K mainGlobals "_law_whole" = some (some (.ref fWh)))
    (lWh : K.lookup fWh = some ⟨ocWh, odWh, .func (PySem.W.fnOf "_law_whole" "_law_whole" (defArgs sWho) (defBody sWho) (defScope sWho) .none kVWh dcWh pmWh anWh cdWh ctWh), slWh⟩)
    (cWh : PySem.W.codeIn K cdWh "_law_whole" = true)
    (kWh : PySem.W.keepIn K (.ref fWh) = true)
    (aJo : PySem.W.nsIn K mainGlobals "_law_join" = some (some (.ref fJo)))
    (lJo : K.lookup fJo = some ⟨ocJo, odJo, .func (PySem.W.fnOf "_law_join" "_law_join" (defArgs sJoi) (defBody sJoi) (defScope sJoi) .none kVJo dcJo pmJo anJo cdJo ctJo), slJo⟩)
    (cJo : PySem.W.codeIn K cdJo "_law_join" = true)
    (kJo : PySem.W.keepIn K (.ref fJo) = true)
    (aL : PySem.W.nsIn K mainGlobals "law" = some (some (.ref fL)))
    (lL : K.lookup fL = some ⟨ocL, odL, .func (PySem.W.fnOf "law" "law" (defArgs sLaw) (defBody sLaw) (defScope sLaw) .none kVL dcL pmL anL cdL ctL), slL⟩)
    (cL : PySem.W.codeIn K cdL "law" = true)
    (kL : PySem.W.keepIn K (.ref fL) = true)
    (opq : PySem.W.nsIn K cStatics "thirdparty.any" = some none)
    (nsup : PySem.W.nsIn K mainGlobals "super" = some none)
    (aE : PySem.W.nsIn K mainGlobals "BadNumber" = some (some (.ref CE)))
    (xE : K.lookup CE = some (excClassObj nmE qE CE NE bsE [.ref BE, .type "ValueError", .type "Exception", .type "BaseException", .type "object"] true snE subE abE colE ddE m0E m1E m2E m3E m5E "ValueError.__new__"))
    (saE : PySem.W.findIn K (.ref CE) "__setattr__" = some (some (.builtin "object.__setattr__")))
    (gaE : PySem.W.findIn K (.ref CE) "__getattribute__" = some (some (.builtin "BaseException.__getattribute__")))
    (ggE : PySem.W.findIn K (.ref CE) "__getattr__" = some none)
    (nbE : PySem.W.findIn K (.ref CE) "value" = some none)
    (iE : PySem.W.findIn K (.ref CE) "__init__" = some (some (.ref fiE)))
    (tE : PySem.W.typeIn K (.ref fiE) = some (.type "function"))
    (lE : K.lookup fiE = some ⟨ocE, odE, .func (PySem.W.fnX "__init__" "BadNumber.__init__" (defArgs sErr) (defBody sErr) (defScope sErr) [("__class__", ccE)] .none kVE dcE pmE anE (.ref cdE) ctE), slE⟩)
    (coE : PySem.W.codeIn K (.ref cdE) "BadNumber.__init__" = true)
    (lkE : K.lookup cdE = some ⟨ckE, dkE, .fields vkE, skE⟩)
    (vkEx : vkE[2]? = some (.str flE tfE))
    (feE : ((P.main.file : Str) == flE) = true)
    (leE : K.lookup ccE = some ⟨ceE, deE, .cell (some (.ref CE)), seE⟩)
    (mrE : PySem.W.mroIn K CE (.ref CE) = some true)
    (upE : PySem.W.ks_superIn K CE CE "__init__" = some (some (.builtin "ValueError.__init__")))
    (svE : PySem.W.subIn K (.ref CE) (.type "ValueError") = some true)
    (kcE : PySem.W.keepIn K (.ref CE) = true)
    (ebE : PySem.W.subIn K (.ref CE) (.type "BaseException") = some true)
    (tyE : PySem.W.typeIn K (.ref CE) = some (.type "type"))
    (hdE : PySem.W.hasDictIn K CE = true)
    (ssE : PySem.W.subIn K (.ref CE) (.ref CE) = some true)
    (n_len : PySem.W.nsIn K mainGlobals "len" = some none)
    (n_int : PySem.W.nsIn K mainGlobals "int" = some none)
    (n_isinstance : PySem.W.nsIn K mainGlobals "isinstance" = some none)
    (n_bool : PySem.W.nsIn K mainGlobals "bool" = some none)
    (n_range : PySem.W.nsIn K mainGlobals "range" = some none)
    (n_sum : PySem.W.nsIn K mainGlobals "sum" = some none)
    (n_repr : PySem.W.nsIn K mainGlobals "repr" = some none)
    (n_str : PySem.W.nsIn K mainGlobals "str" = some none)
    (n_min : PySem.W.nsIn K mainGlobals "min" = some none)
    (n_NotImplemented : PySem.W.nsIn K mainGlobals "NotImplemented" = some none)
    (g_isqrt : PySem.W.nsIn K mainGlobals "isqrt" = some (some (.builtin "math.isqrt")))
    (rdD : PySem.W.readsIn K CLadder (.type "type") = true)
    (gaD : PySem.W.specialIn K (.ref CLadder) "__getattribute__" = some (some (.builtin "type.__getattribute__")))
    (ovD : PySem.W.findCls K (.ref CLadder) (.type "type") "OVERLAP" = some (.val (.int 1 tkO)))
    (cPG : PySem.W.plainGet K CLadder Str.empty = true)
    (cHD : PySem.W.hasDictIn K CLadder = true)
    (cPO : PySem.W.plainOver K CLadder = true)
    (cSA : PySem.W.findIn K (.ref CLadder) "__setattr__" = some (some (.builtin "object.__setattr__")))
    (cNL : PySem.W.findIn K (.ref CLadder) "length" = some none)
    (cNP : PySem.W.findIn K (.ref CLadder) "parts" = some none)
    (cHA : PySem.W.findIn K (.ref CLadder) "__class__" = some (some (.builtin "object.__class__")))
    (cHN : PySem.W.specialIn K (.builtin "object.__class__") "__get__" = some (some (.builtin "getset_descriptor.__get__")))
    (cHT : PySem.W.takesIn K (.builtin "object.__class__") = some true)
    (cHM : PySem.W.mroIn K CLadder (.type "object") = some true)
    (cMK : PySem.W.makesIn K CLadder = true)
    (cKP : PySem.W.keepIn K (.ref CLadder) = true)
    (cSF : PySem.W.selfFirst K CLadder = true)
    (cNE : PySem.W.findIn K (.ref CLadder) "__ne__" = some (some (.builtin "object.__ne__")))
    (cSI : PySem.W.subIn K (.type "int") (.ref CLadder) = some false)
    (cKI : PySem.W.kitOne K (.type "int") (.ref CLadder) = some false)
    (cFI : PySem.W.fnIn K fMc = true) :
    ∃ fd : FuncData, (∀ (s : Shared) (v : Value), BindsTo s fd ⟨[v], []⟩ [("_law_script", v)]) ∧ ∀ base : Heap, K.In base → base.Ns mainGlobals mg → FnOk P w K mg base CX0 9 fa fd ["_law_script"] (spLaw K) := by
  have e := hfa.symm.trans (PySem.W.mg_of X G aL)
  cases e
  have FK := fun_mk (st := sChk) lK cK kK
  have bK := FK.binds (ps := ["number"]) fun _ _ _ _ _ _ us hl => match us, hl with | [_], _ => rfl
  have FF : FunD K "reach" "reach" (defArgs sReach) (defBody sReach) (defScope sReach) [.int 0] [] fF _ := ⟨⟨ocF, odF, .ref DTF, kVF, dcF, pmF, anF, cdF, ctF, slF, rfl, lF, cF, .inr ⟨by simp, DTF, _, [.int 0 tkF], xnF, rfl, dF, rfl, .cons (⟨_, rfl⟩) (.nil)⟩, .inl rfl⟩, kF⟩
  obtain ⟨dsF0, vdF0, bF0⟩ := FF.binds1 (ps := ["length", "foot"]) 1 0 (by simp) (by decide) fun T kV doc pm an cdv ct us its hu hi => match us, hu, its, hi with | [_], _, [_], _ => ⟨_, rfl, rfl⟩
  obtain ⟨dsF1, vdF1, bF1⟩ := FF.binds1 (ps := ["length", "foot"]) 2 1 (by simp) (by decide) fun T kV doc pm an cdv ct us its hu hi => match us, hu, its, hi with | [_, _], _, [_], _ => ⟨_, rfl, rfl⟩
  cases vdF1
  have FJ := fun_mk (st := sJoin) lJ cJ kJ
  have bJ := trivial
  have FMi : FunD K "__init__" "Ladder.__init__" (defArgs sInit) (defBody sInit) (defScope sInit) [.int 1] [] fMi _ := ⟨⟨ocMi, odMi, .ref DTMi, kVMi, dcMi, pmMi, anMi, cdMi, ctMi, slMi, rfl, lMi, cMi, .inr ⟨by simp, DTMi, _, [.int 1 tkI], xnMi, rfl, dMi, rfl, .cons (⟨_, rfl⟩) (.nil)⟩, .inl rfl⟩, kMi⟩
  obtain ⟨dsMi0, vdMi0, bMi0⟩ := FMi.binds1 (ps := ["self", "length", "parts"]) 2 0 (by simp) (by decide) fun T kV doc pm an cdv ct us its hu hi => match us, hu, its, hi with | [_, _], _, [_], _ => ⟨_, rfl, rfl⟩
  obtain ⟨dsMi1, vdMi1, bMi1⟩ := FMi.binds1 (ps := ["self", "length", "parts"]) 3 1 (by simp) (by decide) fun T kV doc pm an cdv ct us its hu hi => match us, hu, its, hi with | [_, _, _], _, [_], _ => ⟨_, rfl, rfl⟩
  cases vdMi1
  have FMa := fun_mk (st := sAdd) lMa cMa kMa
  have bMa := FMa.binds (ps := ["self", "other"]) fun _ _ _ _ _ _ us hl => match us, hl with | [_, _], _ => rfl
  have FMe := fun_mk (st := sEq) lMe cMe kMe
  have bMe := FMe.binds (ps := ["self", "other"]) fun _ _ _ _ _ _ us hl => match us, hl with | [_, _], _ => rfl
  have FMl := fun_mk (st := sLt) lMl cMl kMl
  have bMl := FMl.binds (ps := ["self", "other"]) fun _ _ _ _ _ _ us hl => match us, hl with | [_, _], _ => rfl
  have FMr := fun_mk (st := sRepr) lMr cMr kMr
  have bMr := FMr.binds (ps := ["self"]) fun _ _ _ _ _ _ us hl => match us, hl with | [_], _ => rfl
  have FMc : FunD K "__call__" "Ladder.__call__" (defArgs sCallL) (defBody sCallL) (defScope sCallL) [.int 0] [] fMc _ := ⟨⟨ocMc, odMc, .ref DTMc, kVMc, dcMc, pmMc, anMc, cdMc, ctMc, slMc, rfl, lMc, cMc, .inr ⟨by simp, DTMc, _, [.int 0 tkC], xnMc, rfl, dMc, rfl, .cons (⟨_, rfl⟩) (.nil)⟩, .inl rfl⟩, kMc⟩
  obtain ⟨dsMc0, vdMc0, bMc0⟩ := FMc.binds1 (ps := ["self", "foot"]) 1 0 (by simp) (by decide) fun T kV doc pm an cdv ct us its hu hi => match us, hu, its, hi with | [_], _, [_], _ => ⟨_, rfl, rfl⟩
  obtain ⟨dsMc1, vdMc1, bMc1⟩ := FMc.binds1 (ps := ["self", "foot"]) 2 1 (by simp) (by decide) fun T kV doc pm an cdv ct us its hu hi => match us, hu, its, hi with | [_, _], _, [_], _ => ⟨_, rfl, rfl⟩
  cases vdMc1
  have FB := fun_mk (st := sBox) lB cB kB
  have bB := FB.binds (ps := ["_law_script"]) fun _ _ _ _ _ _ us hl => match us, hl with | [_], _ => rfl
  have FT := fun_mk (st := sTake) lT cT kT
  have bT := FT.binds (ps := ["_law_box_here", "_law_size"]) fun _ _ _ _ _ _ us hl => match us, hl with | [_, _], _ => rfl
  have FN := fun_mk (st := sNum) lN cN kN
  have bN := FN.binds (ps := ["_law_x"]) fun _ _ _ _ _ _ us hl => match us, hl with | [_], _ => rfl
  have FSy := fun_mk (st := sSays) lSy cSy kSy
  have bSy := FSy.binds (ps := ["_law_told", "_law_due"]) fun _ _ _ _ _ _ us hl => match us, hl with | [_, _], _ => rfl
  have FLd := fun_mk (st := sLdr) lLd cLd kLd
  have bLd := FLd.binds (ps := ["_law_box_here"]) fun _ _ _ _ _ _ us hl => match us, hl with | [_], _ => rfl
  have FSu := fun_mk (st := sSum) lSu cSu kSu
  have bSu := FSu.binds (ps := ["_law_a", "_law_b"]) fun _ _ _ _ _ _ us hl => match us, hl with | [_, _], _ => rfl
  have FMd := fun_mk (st := sMade) lMd cMd kMd
  have bMd := FMd.binds (ps := ["_law_length"]) fun _ _ _ _ _ _ us hl => match us, hl with | [_], _ => rfl
  have FLn := fun_mk (st := sLnt) lLn cLn kLn
  have bLn := FLn.binds (ps := ["_law_ladder_here", "_law_stand"]) fun _ _ _ _ _ _ us hl => match us, hl with | [_, _], _ => rfl
  have FRc := fun_mk (st := sRch) lRc cRc kRc
  have bRc := FRc.binds (ps := ["_law_told", "_law_length", "_law_stand"]) fun _ _ _ _ _ _ us hl => match us, hl with | [_, _, _], _ => rfl
  have FWh := fun_mk (st := sWho) lWh cWh kWh
  have bWh := FWh.binds (ps := ["_law_ladder_here", "_law_length", "_law_parts"]) fun _ _ _ _ _ _ us hl => match us, hl with | [_, _, _], _ => rfl
  have FJo := fun_mk (st := sJoi) lJo cJo kJo
  have bJo := FJo.binds (ps := ["_law_one", "_law_other"]) fun _ _ _ _ _ _ us hl => match us, hl with | [_, _], _ => rfl
  have FL := fun_mk (st := sLaw) lL cL kL
  have bL := FL.binds (ps := ["_law_script"]) fun _ _ _ _ _ _ us hl => match us, hl with | [_], _ => rfl
  have OE : OexC K CE := ⟨⟨nmE, qE, NE, bsE, _, snE, subE, abE, colE, ddE, m0E, m1E, m2E, m3E, m5E, xE, by rfl⟩, saE, ebE, tyE, kcE⟩
  have TE : ErrTxt P K mg CE fiE cdE ccE "BadNumber.__init__" sErr := {
    oex := OE
    iC := iE
    tI := tE
    fn := ⟨_, _, _, _, _, _, _, _, lE⟩
    code := coE
    file := ⟨_, vkE, flE, tfE, lkE, rfl, vkEx, feE⟩
    cell := ⟨_, leE, rfl⟩
    self := mrE
    opaque_ := opq
    up := upE
    isVE := svE
    top := htop
    noSup := PySem.W.mg_none_of X G nsup }
  have RE : ∀ base, ErrOk P w K mg base "BadNumber" CE "value" okInt := fun base => by
    obtain ⟨fd, hfd, hb⟩ := err_int (w := w) (base := base) TE rfl rfl (nscope_by (by decide +kernel)) (fun _ _ _ _ _ _ _ us hl => match us, hl with | [_, _], _ => rfl) rfl rfl rfl (by decide) (by decide) (by decide) nbE
    exact ⟨OE, ⟨gaE, ggE, ebE, hdE⟩, PySem.W.mg_of X G aE, nbE, PySem.W.exm_ref ebE hdE tyE ssE, ⟨_, fd, iE, tE, hfd, hb⟩⟩
  exact ⟨PySem.W.fnOf "law" "law" (defArgs sLaw) (defBody sLaw) (defScope sLaw) .none kVL dcL pmL anL cdL ctL, fun s v => .of_eq rfl, fun base _ _ => by
    have OT : OverTxt K mg CLadder (.type "type") (.int 1 tkO) := { g := PySem.W.mg_of X G aCL, cr := ⟨rdD, gaD⟩, cv := ⟨ovD, ⟨_, rfl⟩⟩, len := PySem.W.mg_none_of X G n_len, sum := PySem.W.mg_none_of X G n_sum }
    have bt : BoxTxt K mg := ⟨PySem.W.mg_none_of X G n_len, PySem.W.mg_none_of X G n_int⟩
    have nt : NumTxt mg := ⟨PySem.W.mg_none_of X G n_isinstance, PySem.W.mg_none_of X G n_int, PySem.W.mg_none_of X G n_bool⟩
    have cl : Cls K CLadder := ⟨cPG, cHD, cPO, cSA⟩
    have DT : LadTxt K mg CLadder fK fF fJ := { lad := PySem.W.mg_of X G aCL, chk := PySem.W.mg_of X G aK, reach := PySem.W.mg_of X G aF, join := PySem.W.mg_of X G aJ, isi := PySem.W.mg_none_of X G n_isinstance, cl := cl, nL := cNL, nP := cNP, ha := cHA, hn := cHN, ht := cHT, hm := cHM }
    have GR := ok_reach (P := P) (w := w) (base := base) FF (RE base) FK bK ⟨PySem.W.mg_of X G aK, PySem.W.mg_of X G aF, PySem.W.mg_of X G g_isqrt⟩
    have GJ := ok_join (P := P) (w := w) (base := base) FJ (RE base) OT (fun rest => by cases rest <;> rfl)
    have GI0 := ok_init (P := P) (w := w) (base := base) FMi (RE base) FK bK DT
    have GI := Own.fnr0 GI0 bMi1
    have GI1 : FnR P w K mg base (L2.CX P w) 5 fMi (spInit1 CE CLadder) := Own.fnr_of GI0 bMi0 vdMi0
    have MK : Mk K CLadder fMi := ⟨cMK, aMi, iMi, cKP⟩
    have GA := Own.fnr0 (ok_add (P := P) (w := w) (base := base) FMa MK GI GJ FJ.kp DT) bMa
    have GEq := Own.fnr0 (ok_eq (P := P) (w := w) (base := base) FMe DT) bMe
    have NEq := ni_eq (P := P) (w := w) (base := base) FMe bMe DT (PySem.W.mg_none_of X G n_NotImplemented) cKI
    have GLt := Own.fnr0 (ok_lt (P := P) (w := w) (base := base) FMl DT) bMl
    have GRp := Own.fnr0 (ok_repr (P := P) (w := w) (base := base) FMr DT) bMr
    have GC0 := ok_callL (P := P) (w := w) (base := base) FMc GR FF bF1 DT
    have GCL := Own.fnr0 GC0 bMc1
    have GCL0 : FnR P w K mg base (L2.CX P w) 6 fMc (spCallL0 CE CLadder) := Own.fnr_of GC0 bMc0 vdMc0
    have CO : StX.CallO K CLadder fMc := ⟨aMc, iMc, cFI⟩
    have LT : LTxt mg CLadder fT fN := { lad := PySem.W.mg_of X G aCL, take := PySem.W.mg_of X G aT, num := PySem.W.mg_of X G aN, b_len := PySem.W.mg_none_of X G n_len, b_repr := PySem.W.mg_none_of X G n_repr, b_str := PySem.W.mg_none_of X G n_str }
    have GB : FnOk P w K mg base CX0 1 fB _ ["_law_script"] (spBox K) := ok_box FB bt
    have GT : FnOk P w K mg base CX0 1 fT _ ["_law_box_here", "_law_size"] spTake := ok_take FT bt
    have GN : FnOk P w K mg base CX0 1 fN _ ["_law_x"] spNum := ok_num FN nt
    exact ok_law FL { box := PySem.W.mg_of X G aB, ldr := PySem.W.mg_of X G aLd, says := PySem.W.mg_of X G aSy, sum := PySem.W.mg_of X G aSu, joi := PySem.W.mg_of X G aJo, who := PySem.W.mg_of X G aWh, rch := PySem.W.mg_of X G aRc, lnt := PySem.W.mg_of X G aLn, made := PySem.W.mg_of X G aMd, b_min := PySem.W.mg_none_of X G n_min } LT
      GB FB bB GT FT bT (ok_ldr FLd MK GI GI1 GT FT bT LT) FLd bLd (ok_says FSy) FSy bSy (ok_sum FSu (RE base) GA aMa iMa cSF cl cNL cNP) FSu bSu (ok_joi FJo LT) FJo bJo
      (ok_who FWh GN FN bN LT GRp aMr iMr cl cNL cNP) FWh bWh (ok_rch FRc GN FN bN LT) FRc bRc (ok_lnt FLn (RE base) CO GCL) FLn bLn (ok_made FMd (RE base) MK GI1 LT) FMd bMd
      MK GI GA aMa iMa cSF GEq aMe iMe cNE cHM NEq cSI GLt aMl iMl CO GCL GCL0⟩
theorem walk {l : PySem.W.OpenLaw} {q : Program} {loose : List Str} {XP : (Str → Option Value) → Heap → Prop} {YP : World → Heap → Prop} {d : DefRec} {K : Params → PySem.W.Frag} (hn : l.most = some 63) (hdf : d.params.defaults = [])
    (hY : ∀ (w : World) (h : Heap), YP w h → (K w.params).In h)
    (F : ∀ (w : World) (mg : Str → Option Value) (fa : Addr) (h : Heap), (K w.params).In h → h.Ns mainGlobals mg → mg d.name = some (.ref fa) →
      ∃ fd : FuncData, (∀ (s : Shared) (u : Value), BindsTo s fd ⟨[u], []⟩ [("_law_script", u)]) ∧ ∀ base : Heap, (K w.params).In base → base.Ns mainGlobals mg → FnOk l.prog w (K w.params) mg base CX0 9 fa fd ["_law_script"] (spLaw (K w.params))) :
    PySem.W.WalkO q loose XP YP l.row.toRowW d [] (fun f vs => PySem.call f vs) :=
  L2.walk_of (n := 63) (k := 9) (x := "_law_script") (CX := fun _ => CX0) (sp := fun w => spLaw (K w.params)) hn (by decide) hdf ⟨rfl, by decide, by decide⟩ hY F (fun _ _ a ns hl _ hS => ⟨a, ns, rfl, hS, hl, fun _ => rfl⟩) fun _ _ _ _ _ z => z
end Law

open PySem PySem.W PyProof.Rows
set_option maxRecDepth 100000 in
set_option maxHeartbeats 0 in
theorem PySem.Challenge.cw_rungbounds_k04_ladders_as_values_holds : PySem.Challenge.rw_rungbounds_k04_ladders_as_values.Holds := by
  w_on; o_law; k_head; (case hw => w_witness2)
  k_fill
  refine Law.walk (l := PySem.Challenge.rw_rungbounds_k04_ladders_as_values) rfl rfl (fun w h Y => PySem.W.kIn_of Y) ?F
  case F =>
    intro w mg fa h KX G hmg
    refine' Law.all_mk KX G hmg (by rfl) ?aCL ?aK ?lK ?cK ?kK ?aF ?lF ?cF ?kF ?dF ?aJ ?lJ ?cJ ?kJ ?aMi ?lMi ?cMi ?kMi ?iMi ?dMi ?aMa ?lMa ?cMa ?kMa ?iMa ?aMe ?lMe ?cMe ?kMe ?iMe ?aMl ?lMl ?cMl ?kMl ?iMl ?aMr ?lMr ?cMr ?kMr ?iMr ?aMc ?lMc ?cMc ?kMc ?iMc ?dMc ?aB ?lB ?cB ?kB ?aT ?lT ?cT ?kT ?aN ?lN ?cN ?kN ?aSy ?lSy ?cSy ?kSy ?aLd ?lLd ?cLd ?kLd ?aSu ?lSu ?cSu ?kSu ?aMd ?lMd ?cMd ?kMd ?aLn ?lLn ?cLn ?kLn ?aRc ?lRc ?cRc ?kRc ?aWh ?lWh ?cWh ?kWh ?aJo ?lJo ?cJo ?kJo ?aL ?lL ?cL ?kL ?opq ?nsup ?aE ?xE ?saE ?gaE ?ggE ?nbE ?iE ?tE ?lE ?coE ?lkE ?vkEx ?feE ?leE ?mrE ?upE ?svE ?kcE ?ebE ?tyE ?hdE ?ssE ?n_len ?n_int ?n_isinstance ?n_bool ?n_range ?n_sum ?n_repr ?n_str ?n_min ?n_NotImplemented ?g_isqrt ?rdD ?gaD ?ovD ?cPG ?cHD ?cPO ?cSA ?cNL ?cNP ?cHA ?cHN ?cHT ?cHM ?cMK ?cKP ?cSF ?cNE ?cSI ?cKI ?cFI
    (case aCL => k_is)
    (case aK => k_is)
    (case lK => k_is)
    (case cK => k_is)
    (case kK => k_is)
    (case aF => k_is)
    (case lF => k_is)
    (case cF => k_is)
    (case kF => k_is)
    (case dF => k_is)
    (case aJ => k_is)
    (case lJ => k_is)
    (case cJ => k_is)
    (case kJ => k_is)
    (case aMi => k_is)
    (case lMi => k_is)
    (case cMi => k_is)
    (case kMi => k_is)
    (case iMi => k_is)
    (case dMi => k_is)
    (case aMa => k_is)
    (case lMa => k_is)
    (case cMa => k_is)
    (case kMa => k_is)
    (case iMa => k_is)
    (case aMe => k_is)
    (case lMe => k_is)
    (case cMe => k_is)
    (case kMe => k_is)
    (case iMe => k_is)
    (case aMl => k_is)
    (case lMl => k_is)
    (case cMl => k_is)
    (case kMl => k_is)
    (case iMl => k_is)
    (case aMr => k_is)
    (case lMr => k_is)
    (case cMr => k_is)
    (case kMr => k_is)
    (case iMr => k_is)
    (case aMc => k_is)
    (case lMc => k_is)
    (case cMc => k_is)
    (case kMc => k_is)
    (case iMc => k_is)
    (case dMc => k_is)
    (case aB => k_is)
    (case lB => k_is)
    (case cB => k_is)
    (case kB => k_is)
    (case aT => k_is)
    (case lT => k_is)
    (case cT => k_is)
    (case kT => k_is)
    (case aN => k_is)
    (case lN => k_is)
    (case cN => k_is)
    (case kN => k_is)
    (case aSy => k_is)
    (case lSy => k_is)
    (case cSy => k_is)
    (case kSy => k_is)
    (case aLd => k_is)
    (case lLd => k_is)
    (case cLd => k_is)
    (case kLd => k_is)
    (case aSu => k_is)
    (case lSu => k_is)
    (case cSu => k_is)
    (case kSu => k_is)
    (case aMd => k_is)
    (case lMd => k_is)
    (case cMd => k_is)
    (case kMd => k_is)
    (case aLn => k_is)
    (case lLn => k_is)
    (case cLn => k_is)
    (case kLn => k_is)
    (case aRc => k_is)
    (case lRc => k_is)
    (case cRc => k_is)
    (case kRc => k_is)
    (case aWh => k_is)
    (case lWh => k_is)
    (case cWh => k_is)
    (case kWh => k_is)
    (case aJo => k_is)
    (case lJo => k_is)
    (case cJo => k_is)
    (case kJo => k_is)
    (case aL => k_is)
    (case lL => k_is)
    (case cL => k_is)
    (case kL => k_is)
    (case opq => k_is)
    (case nsup => k_is)
    (case aE => k_is)
    (case xE => k_is)
    (case saE => k_is)
    (case gaE => k_is)
    (case ggE => k_is)
    (case nbE => k_is)
    (case iE => k_is)
    (case tE => k_is)
    (case lE => k_is)
    (case coE => k_is)
    (case lkE => k_is)
    (case vkEx => rfl)
    (case feE => decide +kernel)
    (case leE => k_is)
    (case mrE => k_is)
    (case upE => first | ks_is | rfl)
    (case svE => k_is)
    (case kcE => k_is)
    (case ebE => k_is)
    (case tyE => k_is)
    (case hdE => k_is)
    (case ssE => first | rfl | k_is)
    (case n_len => k_is)
    (case n_int => k_is)
    (case n_isinstance => k_is)
    (case n_bool => k_is)
    (case n_range => k_is)
    (case n_sum => k_is)
    (case n_repr => k_is)
    (case n_str => k_is)
    (case n_min => k_is)
    (case n_NotImplemented => k_is)
    (case g_isqrt => k_is)
    (case rdD => k_is)
    (case gaD => k_is)
    (case ovD => k_is)
    (case cPG => first | k_is | rfl | kernel_rfl)
    (case cHD => first | k_is | rfl | kernel_rfl)
    (case cPO => first | k_is | rfl | kernel_rfl)
    (case cSA => k_is)
    (case cNL => k_is)
    (case cNP => k_is)
    (case cHA => k_is)
    (case cHN => first | k_is | rfl)
    (case cHT => first | k_is | rfl)
    (case cHM => k_is)
    (case cMK => first | k_is | rfl | kernel_rfl)
    (case cKP => k_is)
    (case cSF => first | k_is | rfl | kernel_rfl)
    (case cNE => k_is)
    (case cSI => first | k_is | rfl | kernel_rfl)
    (case cKI => first | k_is | rfl | kernel_rfl)
    (case cFI => first | k_is | rfl | kernel_rfl)
