import PyProof.Rows.All
import Wide.All
import OpenK.AllK
import Wide.FinOn
import HandS.ForMost
import HandS.Wide
import HandS.ExcInit
import HandS.FStr
import HandS.Nested
import HandS.TryOnly
import HandS.ExcField
import HandS.WordsExc
import HandS.IsInst
import HandS.Codes
import HandS.Gcd
import HandS.Star
import HandS.ClsMeth
import KE.KTupSum
import HandS.Defaults
import HandS.ExcIs
import KE.KExcSuper
import KE.KMathG
import PySem.Challenge.RW_rungbounds_k03_length_of_a_join
set_option Elab.async false
set_option linter.all false
set_option maxRecDepth 100000
set_option maxHeartbeats 4000000
/-! Errors whose making calls super().__init__ on a text, then keeps a field. -/
namespace Sup
open PySem PySem.Spec PyProof.Rows L2 NdefX

abbrev mwrap (x : Addr) : Obj := PySem.W.kxs_mw "ValueError.__init__" x

/-- the wrapper of ValueError.__init__ bound to a, called -/
theorem call_wrap {prog : Program} {w : World} {A : Around} {E : Value → Shared → Prop} {h : Heap} {g : Array GenState} {d : Drawn} {t : Nat} {os : OsState}
    {nm q : Str} {C N : Addr} {bs bm : List Value} {hd : Bool} {sn : List Str} {sub : List Value} {ab : Bool} {col : Option Bool} {dd : Option Addr} {k0 k1 k2 k3 k5 : Option Value}
    {u a t0 : Addr} {us : List Value} {Q : Value → Shared → Prop}
    (hC : h.get? C = some (excClassObj nm q C N bs bm hd sn sub ab col dd k0 k1 k2 k3 k5 "ValueError.__new__"))
    (ha : h.get? a = some (PySem.HandSPX.excO C t0)) (hu : h.get? u = some (mwrap a)) (hl : us.length ≤ sizeLine)
    (hq : ∀ h' t1, (∀ b o, b ≠ a → h.get? b = some o → h'.get? b = some o) → h'.get? a = some (PySem.HandSPX.excO C t1) → Q .none ⟨h', g, d, t, os⟩) :
    wpAny (model prog w) A (call (.ref u) us) Q E ⟨h, g, d, t, os⟩ := by
  have FB := F.excBase_ValueError
  refine wpAny_call (codeAny_of_tree ?_)
  show wpAny _ A.in1 (callAny (.ref u) ⟨us, []⟩) _ _ _
  unfold callAny
  refine wpAny_bind (wpAny_load hu ?_)
  have k1' : (Value.type "method-wrapper" == Value.type "method" || Value.type "method-wrapper" == Value.type "builtin_function_or_method" || Value.type "method-wrapper" == Value.type "method-wrapper") = true := by decide
  simp only [mwrap, PySem.W.kxs_mw, k1', if_true]
  refine PySem.W.KFB.if_so (by decide) ?_
  refine wpAny_bind (PySem.W.check_bound_init FB.toExcCallFacts hC ha rfl ?_)
  refine wpAny_bind (wpAny_pure (wpAny_pure ?_))
  refine ⟨plainId_quiet FB.init.plain _, codeAny_builtin FB.initEntry ?_⟩
  exact PySem.W.exc_init_tree (cls := .ref C) (t0 := t0) (dv := none) (c2 := .none) (c3 := .none) (b4 := .bool false) ha hl fun h' k e _ => hq h' _ k e

/-- what the written part says of an own error's class at C and its __init__ at f -/
structure ErrTxt (P : Program) (K : PySem.W.Frag) (mg : Str → Option Value) (C f cda cc : Addr) (qual : Str) (st : Stmt) : Prop where
  oex : OexC K C
  iC : PySem.W.findIn K (.ref C) "__init__" = some (some (.ref f))
  tI : PySem.W.typeIn K (.ref f) = some (.type "function")
  fn : ∃ (oc : Value) (od an : Option Addr) (kV doc pm ct : Value) (osl : Array (Option Value)),
    K.lookup f = some ⟨oc, od, .func (PySem.W.fnX "__init__" qual (defArgs st) (defBody st) (defScope st) [("__class__", cc)] .none kV doc pm an (.ref cda) ct), osl⟩
  code : PySem.W.codeIn K (.ref cda) qual = true
  file : ∃ (o : Obj) (vs : Array Value) (fl : Str) (tf : Tok), K.lookup cda = some o ∧ o.data = .fields vs ∧ vs[2]? = some (.str fl tf) ∧ ((P.main.file : Str) == fl) = true
  cell : ∃ (o : Obj), K.lookup cc = some o ∧ o.data = .cell (some (.ref C))
  self : PySem.W.mroIn K C (.ref C) = some true
  opaque_ : PySem.W.nsIn K cStatics "thirdparty.any" = some none
  up : PySem.W.ks_superIn K C C "__init__" = some (some (.builtin "ValueError.__init__"))
  isVE : PySem.W.subIn K (.ref C) (.type "ValueError") = some true
  top : (P.main.scope.names.lookup ("super" : Str)).isSome = false
  noSup : mg "super" = none

section
variable {X : Cx} {pins : List (Addr × Obj)} {σ : L2.St} {H : Hp} {s : Shared} {a C f cda cc : Addr} {qual : Str} {st : Stmt} {e : Expr} {te : TE} {body : List Stmt} {p0 p1 p2 p3 : Pos} {Q : Hp → Prop} {scope : Scope} {ar : Arg}
theorem super_init (T : ErrTxt X.prog X.K X.mg C f cda cc qual st) (I : Inv X pins σ H s)
    (henv : X.env = PySem.W.envX qual scope X.env.locals f (.ref cda) [("__class__", cc)])
    (hks : scope.names.lookup ("super" : Str) = some .globalImplicit) (hkc : scope.names.lookup ("__class__" : Str) = some .free)
    (hks' : scope.names.lookup ar.arg = some .local)
    (har : ((defArgs st).posonlyargs ++ (defArgs st).args).head? = some ar)
    (h0 : X.N[0]? = some ar.arg) (hs0 : σ[0]? = some (some (V.ref a))) (ha : H a = some (exo a C none))
    (he : PE X e te) (hq : te σ H fun x H1 => [x].length ≤ 1 ∧ H1 a = some (exo a C none) ∧ Q H1) {pl : Sem Bool}
    (hform : eval (.Call (.Attribute (.Call (.Name "super" p0) [] [] p1) "__init__" p2) [e] [] p3) X.env = (do
      let ov ← attributeBase (.Call (.Name "super" p0) [] [] p1) "__init__" X.env (eval (.Call (.Name "super" p0) [] [] p1) X.env)
      standAt p2.atName
      let (g, first) ← holding [ov] (getMethod ov "__init__" pl)
      callWith p3 g first (backTo p3 (starEach [e] X.env)) []) := by rfl)
    (hse : starEach [e] X.env = (false, eval e X.env) :: starEach [] X.env := by rfl) :
    _root_.PySem.wpAt (model X.prog X.w) X.A (.func body X.env) (eval (.Call (.Attribute (.Call (.Name "super" p0) [] [] p1) "__init__" p2) [e] [] p3) X.env)
      (fun _ s' => ∃ H', Inv X pins σ H' s' ∧ Q H') X.xe s := by
  have kS : X.env.kindOf "super" = some .globalImplicit := by rw [henv]; exact hks
  have kC : X.env.kindOf "__class__" = some .free := by rw [henv]; exact hkc
  have kA : X.env.kindOf ar.arg = some .local := by rw [henv]; exact hks'
  have cL : X.env.cells.lookup ("__class__" : Str) = some cc := by rw [henv]; rfl
  have fL : X.env.func = some f := by rw [henv]
  have dL : X.env.code = .ref cda := by rw [henv]
  obtain ⟨nm, q, N, bs, bm, sn, sub, ab, col, dd, k0, k1, k2, k3, k5, hC, hbm⟩ := T.oex.cls
  have hcl : PySem.W.clsIn X.K C = some { name := nm, bases := bs, mro := .ref C :: bm, ns := N, qualname := q, hasDict := true, slotNames := sn, subclasses := sub, abstract := ab, collection := col, hasDel := false } := by
    unfold PySem.W.clsIn; rw [hC] <;> rfl
  obtain ⟨oc, od, an, kV, doc, pm, ct, osl, lf⟩ := T.fn
  obtain ⟨oF, vs, fl, tf, lc, hvf, hv2, hfl⟩ := T.file
  obtain ⟨oc2, lcell, dcell⟩ := T.cell
  obtain ⟨t1, hga⟩ := exo_at I.hok ha
  refine ks_wpAt_MethodCall (o := .Call (.Name "super" p0) [] [] p1) (name := "__init__") (apos := p2) (pos := p3) (args := [e]) (env := X.env) ?_ hform
  refine ks_wpAt_super_base (env := X.env) (cc := cda) (ar := ar) kS kC (by decide) fL (I.kIn _ _ lf) rfl har dL (I.kIn _ _ lc) hvf hv2 hfl T.top ?_
  -- the name super
  obtain ⟨mb, hb1, hb2⟩ := I.mod.blt
  refine PySem.W.ks_loadName_global I.ok.kind kS (Calls.loadGlobal_builtin (v := .type "super") (by rw [I.ok.glob]; exact I.mod.glob.keeps I.bk) T.noSup
    (by rw [I.ok.blt]; exact hb1.keeps I.bk) ((hb2 _ (by decide)).trans (by decide +kernel)) ⟨rfl, ?_⟩)
  -- the cell __class__
  refine wpAny_loadName_free I.ok.kind kC cL (v := .ref C) ⟨_, I.kIn _ _ lcell, dcell⟩ ?_
  -- self
  obtain ⟨m, hn, hlm⟩ := I.loc
  obtain ⟨u, ru, hlook⟩ := hlm 0 ar.arg (V.ref a) h0 hs0 (.inl (by rw [henv]; exact hks'))
  obtain rfl : u = Value.ref a := ru
  have hma : m ar.arg = some (Value.ref a) := by
    rcases hlook with ⟨_, z⟩ | ⟨z, _⟩
    · exact z
    · rw [kA] at z
      rcases z with z | z <;> cases z
  refine wpAny_loadName_local I.ok.kind kA hn hma ?_
  have gC := I.kIn _ _ hC
  refine ks_wpAny_isType_cls gC rfl ⟨rfl, ?_⟩
  obtain ⟨hp, g, d, t, os⟩ := s
  refine ks_wpAny_call_super gC rfl hga rfl (fun c z => by cases z) (PySem.W.looks_mroIn I.kIn T.self) fun h1 e1 k1 => ?_
  have J1 : Inv X pins σ H ⟨h1, g, d, t, os⟩ := I.kept (t' := t) k1
  have I1 : PySem.W.InstAt h1 a (PySem.HandSPX.excO C t1) C none := ⟨k1 _ _ hga, rfl, rfl, trivial⟩
  have hup := T.up
  unfold PySem.W.ks_superIn at hup
  rw [hcl] at hup
  refine PySem.W.kxs_getMethod PySem.W.kxs_ValueError e1 (PySem.W.looks_opaque J1.kIn T.opaque_)
    (fun A' Q' E' s' k q => wpAny_bind ((PySem.W.looks_clsIn J1.kIn hcl) A' _ E' s' k (wpAny_pure q))) rfl J1.kIn hup
    (I1.type.andThen (PySem.W.looks_subIn J1.kIn T.isVE)) (PySem.W.ks_ne J1.kIn I1 hcl) (by decide) ?_
  have gu : (h1.push (mwrap a)).get? h1.objs.size = some (mwrap a) := Heap.get?_push_at rfl rfl
  have J2 : Inv X pins σ H ⟨h1.push (mwrap a), g, d, t + 1, os⟩ := J1.kept (t' := t + 1) fun b o z => Heap.get?_push_of_some _ z
  have J3 : Inv X ((h1.objs.size, mwrap a) :: pins) σ H ⟨h1.push (mwrap a), g, d, t + 1, os⟩ := J2.pins_of fun p hp => by
    rcases List.mem_cons.mp hp with rfl | hp
    · refine ⟨gu, J1.hok.fresh (Nat.le_refl _), fun z => ?_, J1.nofs (Nat.le_refl _), fun v z => by cases z⟩
      have z' : h1.objs.size = X.env.locals := z
      have y := J1.lt
      rw [← z'] at y
      exact absurd y (Nat.lt_irrefl _)
    · exact J2.pin p (List.mem_append_right _ hp)
  show wpAny _ _ (callWith p3 (.ref h1.objs.size) [] (backTo p3 (starEach [e] X.env)) []) _ _ _
  have hq' : tCons te tNil σ H fun xs H1 => xs.length ≤ 1 ∧ H1 a = some (exo a C none) ∧ Q H1 := hq
  rw [hse]
  refine PySem.W.kxs_callWith (i := "ValueError.__init__") (x := a) (by rfl) ?_
  refine Calls.evalArgs_plain ?_
  have pr := (pa_cons he pa_nil hse).run p3 _ _ σ H _ J3 hq'
  rw [hse] at pr
  refine thn pr fun us s2 hh => ?_
  obtain ⟨xs, H2, I2, r2, hx1, ha2, hQ2⟩ := hh
  have gw := (I2.pin (h1.objs.size, mwrap a) (List.mem_append_right _ List.mem_cons_self)).1
  refine ⟨gw, ?_⟩
  obtain ⟨t2, hga2⟩ := exo_at I2.hok ha2
  obtain ⟨hp2, g2, d2, tk2, os2⟩ := s2
  have hul : us.length ≤ sizeLine := by
    rw [← r2.length, sizeLine_eq]
    omega
  refine call_wrap (us := us) (I2.kIn _ _ hC) hga2 gw hul fun h3 t3 k3' e3 => ?_
  have J4 := I2.write (t' := tk2) (x := a) (e := a) (o := exo a C none) (by rw [ha2]; exact True.intro) (.inl rfl) k3' ⟨_, e3⟩ (exo_ok e3)
  have eu : upd H2 a (exo a C none) = H2 := by
    funext b
    by_cases hb : b = a
    · rw [hb, upd_same, ha2]
    · exact upd_ne hb
  rw [eu] at J4
  exact ⟨H2, J4.pins_of fun p hp => J4.pin p (List.mem_append_right _ (List.mem_cons_of_mem _ hp)), hQ2⟩
end

/-! ### the making of an own error, as a promise -/
/-- at a an exception of the class at C is being made; the argument v goes to the field fl -/
def spErr (C : Addr) (fl : Str) (ok : V → Prop) : Sp := fun vs H Q _ => ∃ (a : Addr) (v : V), vs = [.ref a, v] ∧ H a = some (exo a C none) ∧ ok v ∧
  ∀ dx, H dx = none → dx ≠ a → Q .non (upd (upd H dx (exd dx [(fl, v)])) a (exo a C (some dx)))

def okInt : V → Prop := fun v => ∃ i : Int, v = .int i ∧ i.natAbs.log2 < 1920
def okTxt : V → Prop := fun v => ∃ y : Str, v = .str y ∧ (reprText y).length ≤ 10000

section
variable {P : Program} {w : World} {K : PySem.W.Frag} {mg : Str → Option Value} {base : Heap} {C f cda cc : Addr} {qual pn : Str} {st : Stmt} {N : List Str}

abbrev supNF (qual : Str) (st : Stmt) (cda cc : Addr) : NF := ⟨"__init__", qual, defArgs st, defBody st, defScope st, [("__class__", cc)], cda⟩

/-- a def that closes over __class__ alone, entered: its body runs in the frame of NdefX -/
theorem sup_fn {CX : CXT} {sp : Sp} {k : Nat} {ps : List Str} (T : ErrTxt P K mg C f cda cc qual st) (S : NScope N ps ["__class__"] (defScope st))
    (len : ∀ vs H Q E, sp vs H Q E → vs.length = ps.length)
    (hb : ∀ (oc : Value) (od an : Option Addr) (kV doc pm ct : Value) (us : List Value), us.length = ps.length →
      bindArgs (PySem.W.fnX "__init__" qual (defArgs st) (defBody st) (defScope st) [("__class__", cc)] .none kV doc pm an (.ref cda) ct) ⟨us, []⟩ = pure (ps.zip us))
    (hbody : ∀ (A : Around) (outer : List Env) (s : Shared) (H : Hp) (vs : List V) (Q : VK) (E : XK), sp vs H Q E →
      ∀ s1, L2.Inv (ncx CX P w K mg base N (supNF qual st cda cc) f A outer s H E) [] (startF N vs [none]) H s1 →
        _root_.PySem.wpAt (model P w) (ncx CX P w K mg base N (supNF qual st cda cc) f A outer s H E).A (.func (defBody st) (ncx CX P w K mg base N (supNF qual st cda cc) f A outer s H E).env)
          (execs (defBody st) (ncx CX P w K mg base N (supNF qual st cda cc) f A outer s H E).env)
          (SP (ncx CX P w K mg base N (supNF qual st cda cc) f A outer s H E) [] { nx := fun _ H' => Q .non H', rt := Q })
          (ncx CX P w K mg base N (supNF qual st cda cc) f A outer s H E).xe s1) :
    ∃ fd, FnOk P w K mg base CX (k + 1) f fd ps sp ∧ Binds K fd ps [] := by
  obtain ⟨oc, od, an, kV, doc, pm, ct, osl, lf⟩ := T.fn
  obtain ⟨oc2, lcell, dcell⟩ := T.cell
  refine ⟨_, ⟨len, fun A outer s H args us vs Q E hr e0 hbd r hsp => ?_⟩, Binds.all (hb oc od an kV doc pm ct)⟩
  have hl := len _ _ _ _ hsp
  have KX : K.In s.heap := e0.mod.kin.keeps fun b o e => (e0.bs b o e).1
  have lim : s.heap.NoLimit := e0.mod.nolimit.keeps fun b o e => (e0.bs b o e).1
  have hH : H cc = none := (e0.bs cc oc2 (e0.mod.kin _ _ lcell)).2
  have CA : CellsAt [("__class__", cc)] ["__class__"] [none] s.heap H := {
    len := rfl
    all := fun y c h => by
      have h' : (if y = ("__class__" : Str) then some cc else none) = some c := by
        by_cases e : y = ("__class__" : Str)
        · subst e; exact h
        · have q : (y == ("__class__" : Str)) = false := by simpa using e
          have z : List.lookup y [(("__class__" : Str), cc)] = none := by simp [List.lookup, q]
          rw [z] at h; cases h
      split at h'
      · cases h'
        exact ⟨hH, some (.ref C), oc2, KX _ _ lcell, dcell⟩
      · cases h'
    inj := fun x y c h1 h2 => by
      have key : ∀ z : Str, List.lookup z [(("__class__" : Str), cc)] = some c → z = "__class__" := fun z hz => by
        by_cases e : z = ("__class__" : Str)
        · exact e
        · have q : (z == ("__class__" : Str)) = false := by simpa using e
          have w : List.lookup z [(("__class__" : Str), cc)] = none := by simp [List.lookup, q]
          rw [w] at hz; cases hz
      exact (key x h1).trans (key y h2).symm
    has := fun i y h => by
      match i, h with
      | 0, h =>
        have e : ("__class__" : Str) = y := Option.some.inj h
        subst e
        exact ⟨cc, by simp [List.lookup], fun v z => by cases z⟩
      | i + 1, h => cases h }
  refine ks_codeAny_call_defAt (binds := ps.zip us) hr.depth (KX _ _ lf) rfl lim (PySem.W.codeRec_of KX T.code) rfl hbd S.nocell (fun ⟨n, _⟩ hy => S.par n (List.of_mem_zip hy).1) (fun h1 hns kp => ?_) S.co S.gen S.kind
  have I : L2.Inv (ncx CX P w K mg base N (supNF qual st cda cc) f A outer s H E) [] (startF N vs [none]) H { s with heap := h1, toks := s.toks + (ps.zip us).length } :=
    inv_startN S hr.hd e0 hl r CA hns kp
  refine _root_.PySem.wpAt_mono (hbody A outer s H vs Q E hsp _ I) (fun fl s' hs => ?_) fun e s' hs => hs
  cases fl with
  | ret u =>
    obtain ⟨v, σ', H', J, rv, q⟩ := hs
    exact ⟨v, H', J.os, J.bare, J.base, J.hok, rv, q⟩
  | next =>
    obtain ⟨σ', H', J, q⟩ := hs
    exact ⟨V.non, H', J.os, J.bare, J.base, J.hok, rfl, q⟩
  | brk =>
    obtain ⟨_, _, _, q⟩ := hs
    exact False.elim q
  | cont =>
    obtain ⟨_, _, _, q⟩ := hs
    exact False.elim q
end

section
variable {P : Program} {w : World} {K : PySem.W.Frag} {mg : Str → Option Value} {base : Heap} {C f cda cc : Addr} {qual pn : Str} {st : Stmt} {N : List Str}

/-- the body: super().__init__(e), then one statement more -/
theorem two_run {X : Cx} {σ : L2.St} {H : Hp} {s : Shared} {a : Addr} {e : Expr} {te : TE} {t2 : TS} {st2 : Stmt} {body : List Stmt} {p0 p1 p2 p3 p4 : Pos} {scope : Scope} {ar : Arg} {D : Ends}
    (T : ErrTxt X.prog X.K X.mg C f cda cc qual st) (I : L2.Inv X [] σ H s)
    (henv : X.env = PySem.W.envX qual scope X.env.locals f (.ref cda) [("__class__", cc)])
    (hks : scope.names.lookup ("super" : Str) = some .globalImplicit) (hkc : scope.names.lookup ("__class__" : Str) = some .free)
    (hka : scope.names.lookup ar.arg = some .local)
    (har : ((defArgs st).posonlyargs ++ (defArgs st).args).head? = some ar)
    (h0 : X.N[0]? = some ar.arg) (hs0 : σ[0]? = some (some (V.ref a))) (ha : H a = some (exo a C none))
    (he : PE X e te) (h2 : PS X st2 t2) (hq : te σ H fun x H1 => [x].length ≤ 1 ∧ H1 a = some (exo a C none) ∧ t2 D σ H1) {pl : Sem Bool}
    (hform : eval (.Call (.Attribute (.Call (.Name "super" p0) [] [] p1) "__init__" p2) [e] [] p3) X.env = (do
      let ov ← attributeBase (.Call (.Name "super" p0) [] [] p1) "__init__" X.env (eval (.Call (.Name "super" p0) [] [] p1) X.env)
      standAt p2.atName
      let (g, first) ← holding [ov] (getMethod ov "__init__" pl)
      callWith p3 g first (backTo p3 (starEach [e] X.env)) []) := by rfl)
    (hse : starEach [e] X.env = (false, eval e X.env) :: starEach [] X.env := by rfl) (hi : interactive X.env = false := by rfl) :
    _root_.PySem.wpAt (model X.prog X.w) X.A (.func body X.env)
      (execs [.Expr (.Call (.Attribute (.Call (.Name "super" p0) [] [] p1) "__init__" p2) [e] [] p3) p4, st2] X.env) (SP X [] D) X.xe s := by
  refine ks_wpAt_execs_cons (ks_wpAt_Expr_any ?_ hi)
  refine _root_.PySem.wpAt_mono (super_init (Q := fun H1 => t2 D σ H1) T I henv hks hkc hka har h0 hs0 ha he hq hform hse) (fun v s' hh => ?_) fun _ _ z => z
  obtain ⟨H1, I1, q⟩ := hh
  exact _root_.PySem.wpAt_of_wpAny ((pss_one h2).run [] s' σ H1 D I1 q)

theorem form_of (env : Env) {p0 p1 p2 p3 q4 : Pos} {ps : List Expr} (hln : (p2.endLine == p3.line) = true) : eval (.Call (.Attribute (.Call (.Name "super" p0) [] [] p1) "__init__" p2) [.JoinedStr ps q4] [] p3) env = (do
      let ov ← attributeBase (.Call (.Name "super" p0) [] [] p1) "__init__" env (eval (.Call (.Name "super" p0) [] [] p1) env)
      standAt p2.atName
      let (g, first) ← holding [ov] (getMethod ov "__init__" (do return (← importBound (.Call (.Name "super" p0) [] [] p1) env).getD true))
      callWith p3 g first (backTo p3 (starEach [.JoinedStr ps q4] env)) []) := by
  have hp : methodCallPos true (.Call (.Name "super" p0) [] [] p1) env p2 p3 = pure p3 := by
    unfold methodCallPos
    rw [hln]
    rfl
  show (do
    let ov ← attributeBase (.Call (.Name "super" p0) [] [] p1) "__init__" env (eval (.Call (.Name "super" p0) [] [] p1) env)
    standAt p2.atName
    let (g, first) ← holding [ov] (getMethod ov "__init__" (do return (← importBound (.Call (.Name "super" p0) [] [] p1) env).getD true))
    let cp ← methodCallPos true (.Call (.Name "super" p0) [] [] p1) env p2 p3
    callWith cp g first (backTo p3 (starEach [.JoinedStr ps q4] env)) []) = _
  rw [hp]
  rfl
theorem lit_small {lit : Str} (hl : lit.length ≤ 1000) : (Str.empty ++ lit).length ≤ 1000 := by
  rw [Str.length_append]
  exact Nat.le_trans (Nat.le_of_eq (Nat.zero_add _)) hl
theorem err_int {lit : Str} {j : Nat} {q1 q2 q3 q4 p0 p1 p2 p3 p4 r1 r2 r3 r4 : Pos} {ar : Arg} (T : ErrTxt P K mg C f cda cc qual st)
    (hbd : defBody st = [.Expr (.Call (.Attribute (.Call (.Name "super" p0) [] [] p1) "__init__" p2) [.JoinedStr [.Constant (.str lit) j q1, .FormattedValue (.Name pn q2) (-1) none q3] q4] [] p3) p4,
      .Assign [.Attribute (.Name "self" r1) pn r2] (.Name pn r3) r4]) (hln : (p2.endLine == p3.line) = true)
    (S : NScope ["self", pn, "__class__"] ["self", pn] ["__class__"] (defScope st))
    (hb : ∀ (oc : Value) (od an : Option Addr) (kV doc pm ct : Value) (us : List Value), us.length = 2 →
      bindArgs (PySem.W.fnX "__init__" qual (defArgs st) (defBody st) (defScope st) [("__class__", cc)] .none kV doc pm an (.ref cda) ct) ⟨us, []⟩ = pure ((["self", pn] : List Str).zip us))
    (hks : (defScope st).names.lookup ("super" : Str) = some .globalImplicit)
    (har : ((defArgs st).posonlyargs ++ (defArgs st).args).head? = some ar) (har2 : ar.arg = "self")
    (hd1 : (pn == ("__debug__" : Str)) = false) (hd2 : (pn == ("__classdict__" : Str)) = false)
    (hlit : lit.length ≤ 1000) (hno : PySem.W.findIn K (.ref C) pn = some none) :
    ∃ fd, FnOk P w K mg base CX0 2 f fd ["self", pn] (spErr C pn okInt) ∧ Binds K fd ["self", pn] [] := by
  refine sup_fn T S (fun vs H Q E h => ?_) hb fun A outer s H vs Q E hsp s1 I => ?_
  · obtain ⟨a, v, rfl, _⟩ := h
    rfl
  · obtain ⟨a, v, rfl, ha, ⟨i, rfl, hi⟩, hQ⟩ := hsp
    have vN : Vis (ncx CX0 P w K mg base ["self", pn, "__class__"] (supNF qual st cda cc) f A outer s H E).env.scope pn := .inl (S.par _ (by simp))
    have vS : Vis (ncx CX0 P w K mg base ["self", pn, "__class__"] (supNF qual st cda cc) f A outer s H E).env.scope "self" := .inl (S.par _ (by simp))
    rw [hbd]
    refine two_run (te := fun σ H Q => tJs [tC (.str lit), tFmt (tVar 1)] Str.empty σ H fun out H1 => Q (.str out) H1) T I rfl hks (S.frk _ (by simp)) (by rw [har2]; exact S.par _ (by simp)) har (by rw [har2]; rfl) rfl ha
      (pe_joined (.cons pe_str (.cons (pe_fmt (pe_var (i := 1) rfl vN hd1 hd2)) .nil)))
      (ps_ost (pe_var (i := 0) rfl vS) (pe_var (i := 1) rfl vN hd1 hd2)) ?_ (form_of _ hln) (by rfl) (by show ((defScope st).kind == _ && _) = false; rw [S.kind]; rfl)
    have e0 := lit_small hlit
    have e1 := int_text_length_le (k := 1920) (by decide) hi
    refine ⟨lit, rfl, by rw [sizeLine_eq]; omega, _, rfl, .inr ⟨i, rfl, hi, Str.ofString (toString i), rfl, ?_, Nat.le_refl _, ha, ?_⟩⟩
    · rw [Str.length_append, PySem.ofString_length, sizeLine_eq]
      omega
    · exact ⟨_, rfl, _, rfl, a, C, rfl, T.oex, hno, .inl ⟨ha, fun dx h1 h2 => hQ dx h1 h2⟩⟩
/-- the same where the argument is a text, shown by its repr -/
theorem err_txt {lit : Str} {j : Nat} {q1 q2 q3 q4 p0 p1 p2 p3 p4 r1 r2 r3 r4 : Pos} {ar : Arg} (T : ErrTxt P K mg C f cda cc qual st)
    (hbd : defBody st = [.Expr (.Call (.Attribute (.Call (.Name "super" p0) [] [] p1) "__init__" p2) [.JoinedStr [.Constant (.str lit) j q1, .FormattedValue (.Name pn q2) 114 none q3] q4] [] p3) p4,
      .Assign [.Attribute (.Name "self" r1) pn r2] (.Name pn r3) r4]) (hln : (p2.endLine == p3.line) = true)
    (S : NScope ["self", pn, "__class__"] ["self", pn] ["__class__"] (defScope st))
    (hb : ∀ (oc : Value) (od an : Option Addr) (kV doc pm ct : Value) (us : List Value), us.length = 2 →
      bindArgs (PySem.W.fnX "__init__" qual (defArgs st) (defBody st) (defScope st) [("__class__", cc)] .none kV doc pm an (.ref cda) ct) ⟨us, []⟩ = pure ((["self", pn] : List Str).zip us))
    (hks : (defScope st).names.lookup ("super" : Str) = some .globalImplicit)
    (har : ((defArgs st).posonlyargs ++ (defArgs st).args).head? = some ar) (har2 : ar.arg = "self")
    (hd1 : (pn == ("__debug__" : Str)) = false) (hd2 : (pn == ("__classdict__" : Str)) = false)
    (hlit : lit.length ≤ 1000) (hno : PySem.W.findIn K (.ref C) pn = some none) :
    ∃ fd, FnOk P w K mg base CX0 2 f fd ["self", pn] (spErr C pn okTxt) ∧ Binds K fd ["self", pn] [] := by
  refine sup_fn T S (fun vs H Q E h => ?_) hb fun A outer s H vs Q E hsp s1 I => ?_
  · obtain ⟨a, v, rfl, _⟩ := h
    rfl
  · obtain ⟨a, v, rfl, ha, ⟨y, rfl, hy⟩, hQ⟩ := hsp
    have vN : Vis (ncx CX0 P w K mg base ["self", pn, "__class__"] (supNF qual st cda cc) f A outer s H E).env.scope pn := .inl (S.par _ (by simp))
    have vS : Vis (ncx CX0 P w K mg base ["self", pn, "__class__"] (supNF qual st cda cc) f A outer s H E).env.scope "self" := .inl (S.par _ (by simp))
    rw [hbd]
    refine two_run (te := fun σ H Q => tJs [tC (.str lit), tFmtR (tVar 1)] Str.empty σ H fun out H1 => Q (.str out) H1) T I rfl hks (S.frk _ (by simp)) (by rw [har2]; exact S.par _ (by simp)) har (by rw [har2]; rfl) rfl ha
      (pe_joined (.cons pe_str (.cons (pe_fmtR (pe_var (i := 1) rfl vN hd1 hd2)) .nil)))
      (ps_ost (pe_var (i := 0) rfl vS) (pe_var (i := 1) rfl vN hd1 hd2)) ?_ (form_of _ hln) (by rfl) (by show ((defScope st).kind == _ && _) = false; rw [S.kind]; rfl)
    have e0 := lit_small hlit
    refine ⟨lit, rfl, by rw [sizeLine_eq]; omega, _, rfl, .inl ⟨y, rfl, by rw [sizeLine_eq]; omega, reprText y, rfl, ?_, Nat.le_refl _, ha, ?_⟩⟩
    · rw [Str.length_append, sizeLine_eq]
      omega
    · exact ⟨_, rfl, _, rfl, a, C, rfl, T.oex, hno, .inl ⟨ha, fun dx h1 h2 => hQ dx h1 h2⟩⟩
end

/-! ### an own error, ready to be raised and caught -/
structure ErrOk (P : Program) (w : World) (K : PySem.W.Frag) (mg : Str → Option Value) (base : Heap) (nm : Str) (C : Addr) (fl : Str) (ok : V → Prop) : Prop where
  oex : OexC K C
  xf : XfC K C
  g : mg nm = some (.ref C)
  no : PySem.W.findIn K (.ref C) fl = some none
  te : PySem.W.exmOne K (.ref C) (.ref C) = some true
  run : ∃ (f : Addr) (fd : FuncData), PySem.W.findIn K (.ref C) "__init__" = some (some (.ref f)) ∧ PySem.W.typeIn K (.ref f) = some (.type "function") ∧
    FnOk P w K mg base CX0 2 f fd ["self", fl] (spErr C fl ok) ∧ Binds K fd ["self", fl] []

section
variable {X : Cx} {nm : Str} {C : Addr} {fl : Str} {ok : V → Prop} {e : Expr} {ta : TA} {p pos pos2 : Pos} {W : WX}
/-- raise nm(e) -/
def tErr (C : Addr) (fl : Str) (ok : V → Prop) (ta : TA) (W : WX) : TS := fun _ σ H => tMkO C (spErr C fl ok) [] ta σ H fun cls d H' => W cls d σ H'
theorem ps_err (R : ErrOk X.prog X.w X.K X.mg X.base nm C fl ok) (hc : X.calm = true) (tk : Takes X W) (hr : Room 3 X.A) (ha : PA X [e] ta) (hg : Gl X nm)
    (hdb : (nm == ("__debug__" : Str)) = false := by decide) (he : starEach [e] X.env = (false, eval e X.env) :: starEach [] X.env := by rfl) (hpl : (backTo pos (starEach [] X.env)).any (·.1) = false := by rfl) :
    PS X (.Raise (some (.Call (.Name nm p) [e] [] pos)) none pos2) (tErr C fl ok ta W) := by
  obtain ⟨f, fd, h1, h2, h3, h4⟩ := R.run
  exact ps_raise hc tk (pmk_oex R.oex h1 h2 h3 hr h4 .nil pass0 hg R.g ha hdb he hpl)
/-- what such a raise asks: the argument is fit, and every way out is met -/
theorem err_way {H1 : Hp} {v : V} {Q : XK} (hv : ok v) (h : ∀ d, H1 d = none → Q (.ref C) (some d) (upd H1 d (.xd [(fl, v)]))) :
    [v].length ≤ 1000 ∧ ∀ a, H1 a = none → spErr C fl ok (.ref a :: ([v] ++ [])) (upd H1 a (exo a C none))
      (fun r H2 => r = .non ∧ ∃ (d : Addr) (fs : List (Str × V)), H2 a = some (exo a C (some d)) ∧ H2 d = some (exd d fs) ∧ H1 d = none ∧ Q (.ref C) (some d) (upd (del H2 a) d (.xd fs))) (fun _ _ _ => False) := by
  refine ⟨by show 1 ≤ 1000; omega, fun a hn => ⟨a, v, rfl, upd_same, hv, fun dx hdx hne => ⟨rfl, dx, _, upd_same, by rw [upd_ne hne, upd_same], ?_, ?_⟩⟩⟩
  · rw [upd_ne hne] at hdx
    exact hdx
  · have hd1 : H1 dx = none := by
      rw [upd_ne hne] at hdx
      exact hdx
    have e : upd (del (upd (upd (upd H1 a (exo a C none)) dx (exd dx [(fl, v)])) a (exo a C (some dx))) a) dx (.xd [(fl, v)]) = upd H1 dx (.xd [(fl, v)]) := by
      funext b
      by_cases hb : b = dx
      · rw [hb, upd_same, upd_same]
      · rw [upd_ne hb, upd_ne hb]
        by_cases hba : b = a
        · rw [hba, del_same, hn]
        · rw [del_ne hba, upd_ne hba, upd_ne hb, upd_ne hba]
    rw [e]
    exact h dx hd1
end
end Sup

namespace Law
open PySem PySem.Spec PyProof.Rows L2
def top (i : Nat) : Stmt := PySem.Challenge.pw_rungbounds_k03_length_of_a_join.main.body.getD i (.Pass ⟨0, 0, 0, 0⟩)
abbrev sBox : Stmt := top 10
abbrev sTake : Stmt := top 11
abbrev sNum : Stmt := top 12
/-- the box at b: the cells in the list at l, the place, what is left of a great cell, the seed -/
def Box (H : Hp) (b l : Addr) : Prop := ∃ (ns : List Int) (i : Nat) (q s : Int), H b = some (.lst [.ref l, .int i, .int q, .int s]) ∧ H l = some (.lst (ns.map V.int)) ∧ ns.length ≤ 63
theorem Box.ne {H : Hp} {b l : Addr} (B : Box H b l) : l ≠ b := fun z => by
  obtain ⟨ns, i, q, s, h1, h2, _⟩ := B
  rw [z, h1] at h2
  have e := HO.lst.inj (Option.some.inj h2)
  cases ns with
  | nil => cases e
  | cons n ns => cases e
theorem Box.keep {H H' : Hp} {b l : Addr} (B : Box H b l) (k : ∀ c, c = b ∨ c = l → H' c = H c) : Box H' b l := by
  obtain ⟨ns, i, q, s, h1, h2, h3⟩ := B
  exact ⟨ns, i, q, s, (k b (.inl rfl)).trans h1, (k l (.inr rfl)).trans h2, h3⟩
/-- a draw: 0 ≤ r < size; nothing but the box has changed -/
def spTake : Sp := fun vs H Q _ => ∃ (b l : Addr) (n : Int), vs = [.ref b, .int n] ∧ Box H b l ∧ 0 < n ∧ n.natAbs < 2 ^ 8000 ∧
  ∀ (r : Int) (H' : Hp), 0 ≤ r → r < n → Box H' b l → (∀ c, c ≠ b → H' c = H c) → Q (.int r) H'
def spBox (K : PySem.W.Frag) : Sp := fun vs H Q _ => ∃ (a : Addr) (ns : List Int), vs = [.ref a] ∧ SqL K H a (ns.map V.int) ∧ ns.length ≤ 63 ∧
  ∀ (b l : Addr) (H' : Hp), Box H' b l → H b = none → H l = none → Same H H' → Q (.ref b) H'
structure BoxTxt (K : PySem.W.Frag) (mg : Str → Option Value) : Prop where
  len : mg "len" = none
  int : mg "int" = none
section
variable {P : Program} {w : World} {K : PySem.W.Frag} {mg : Str → Option Value} {base : Heap}
theorem scTake : FnScope ["_law_box_here", "_law_size", "_law_cell", "_law_digit"] ["_law_box_here", "_law_size"] (defScope sTake) := ⟨rfl, rfl, rfl, by decide +kernel, rfl, by decide +kernel, by decide +kernel⟩
theorem if_t {c : Bool} {A B : Prop} (hc : c = true) (h : A) : if c = true then A else B := by
  rw [hc]
  exact h
theorem if_f {c : Bool} {A B : Prop} (hc : c = false) (h : B) : if c = true then A else B := by
  rw [hc]
  exact h
theorem pow18 : CPow 10 18 := ⟨by decide, by decide, by decide⟩
theorem at_box {l : Addr} {i q s : Int} : atI [V.ref l, .int i, .int q, .int s] 0 = some (.ref l) ∧ atI [V.ref l, .int i, .int q, .int s] 1 = some (.int i) ∧ atI [V.ref l, .int i, .int q, .int s] 2 = some (.int q) ∧ atI [V.ref l, .int i, .int q, .int s] 3 = some (.int s) := ⟨rfl, rfl, rfl, rfl⟩
theorem ok_take {f : Addr} {fd : FuncData} (F : Fun K "_law_take" "_law_take" sTake f fd) (T : BoxTxt K mg) : FnOk P w K mg base CX0 1 f fd ["_law_box_here", "_law_size"] spTake := by
  refine F.ok scTake (fun vs H Q E h => ?_) (fun cdv A outer s H vs Q E hr h => ?_)
  · obtain ⟨b, l, n, rfl, _⟩ := h
    rfl
  · obtain ⟨b, l, n, rfl, B, hn0, hn1, k⟩ := h
    refine ⟨_, C8.pss_cut (ps_if (PW.pt (pw_and (pt_cmpR op_lt (pe_ix ix_list (pv 0) pe_int (fun _ _ => rfl)) pe_int (nomark _))
          (pw_and1 (pt_cmpR op_lt (pe_ix ix_list (pv 0) pe_int (fun _ _ => rfl)) (pe_callB call_len_seq (by rfl) T.len PySem.boot_len (pa_cons (pe_ix ix_list (pv 0) pe_int (fun _ _ => rfl)) pa_nil)) (nomark _)))))
        (pss_cons (ps_set (i := 2) scTake.nd rfl (Or.inl rfl) (pe_ix ix_list (pe_ix ix_list (pv 0) pe_int (fun _ _ => rfl)) (pe_ix ix_list (pv 0) pe_int (fun _ _ => rfl)) (fun _ _ => rfl)))
        (pss_cons (ps_asg (pe_op op_add (pe_ix ix_list (pv 0) pe_int (fun _ _ => rfl)) pe_int) (pg_sub (pv 0) pe_int set_list))
        (pss_one (ps_if (pt_cmpR op_ge (pv 2) (pe_op op_pow pe_int pe_int) (nomark _))
          (pss_one (ps_asg (pe_op op_sub (pv 2) (pe_op op_pow pe_int pe_int)) (pg_sub (pv 0) pe_int set_list)))
          (pss_one (ps_asg (pe_op op_mod (pe_callTy call_int1 (by rfl) T.int (by decide +kernel) (pa_cons (pe_op op_add (pe_op op_add (pe_op op_mul (pe_ix ix_list (pv 0) pe_int (fun _ _ => rfl)) pe_int) (pe_op op_mul (pv 2) pe_int)) pe_int) pa_nil)) pe_int) (pg_sub (pv 0) pe_int set_list)))))))
        pss_nil)
      (pss_cons (ps_if (pt_cmpR op_gt (pe_ix ix_list (pv 0) pe_int (fun _ _ => rfl)) pe_int (nomark _))
        (pss_cons (ps_set (i := 3) scTake.nd rfl (Or.inl rfl) (pe_op op_mod (pe_callTy call_int1 (by rfl) T.int (by decide +kernel) (pa_cons (pe_ix ix_list (pv 0) pe_int (fun _ _ => rfl)) pa_nil)) (pv 1)))
        (pss_cons (ps_asg (pe_op op_fdivW (pe_ix ix_list (pv 0) pe_int (fun _ _ => rfl)) (pv 1)) (pg_sub (pv 0) pe_int set_list))
        (pss_one (ps_ret (pv 3))))) pss_nil)
      (pss_cons (ps_asg (pe_op op_mod (pe_callTy call_int1 (by rfl) T.int (by decide +kernel) (pa_cons (pe_op op_mul (pe_ix ix_list (pv 0) pe_int (fun _ _ => rfl)) pe_int) pa_nil)) pe_int) (pg_sub (pv 0) pe_int set_list))
      (pss_one (ps_ret (pe_op op_mod (pe_callTy call_int1 (by rfl) T.int (by decide +kernel) (pa_cons (pe_op op_fdiv (pe_ix ix_list (pv 0) pe_int (fun _ _ => rfl)) pe_int) pa_nil)) (pv 1)))))), ?_⟩
    obtain ⟨ns, i, q, sd, hb, hl, h63⟩ := id B
    have hne := B.ne
    have keepB : ∀ {H' : Hp} {i' : Nat} {q' s' : Int}, H' b = some (.lst [.ref l, .int i', .int q', .int s']) → (∀ c, c ≠ b → H' c = H c) → Box H' b l :=
      fun {H' i' q' s'} h1 h2 => ⟨ns, i', q', s', h1, (h2 l hne).trans hl, h63⟩
    refine ⟨fun σ' H' => ∃ (v : Option V) (i' : Nat) (q' s' : Int), σ' = [some (.ref b), some (.int n), v, none] ∧ H' b = some (.lst [.ref l, .int i', .int q', .int s']) ∧ ∀ c, c ≠ b → H' c = H c, ?_, ?_⟩
    · -- a new cell is read, or not
      refine ⟨_, rfl, b, _, _, _, rfl, rfl, SqL.of hb, at_box.2.2.1, _, _, rfl, rfl, _, rfl, ?_⟩
      by_cases c1 : q < 1
      · refine if_t (decide_eq_true c1) ?_
        refine ⟨_, rfl, b, _, _, _, rfl, rfl, SqL.of hb, at_box.2.1, _, rfl, b, _, _, _, rfl, rfl, SqL.of hb, at_box.1, l, _, rfl, .inl (SqL.of hl), _, _, rfl, rfl, _, rfl, ?_⟩
        by_cases c2 : (i : Int) < ((ns.map V.int).length : Int)
        · refine if_t (decide_eq_true c2) ?_
          rw [List.length_map] at c2
          obtain ⟨z, hz⟩ : ∃ z, ns[i]? = some z := ⟨_, List.getElem?_eq_getElem (by omega)⟩
          have hz' : atI (ns.map V.int) (i : Int) = some (V.int z) := atI_nat (by rw [List.getElem?_map, hz]; rfl)
          refine ⟨_, rfl, b, _, _, _, rfl, rfl, SqL.of hb, at_box.1, _, rfl, b, _, _, _, rfl, rfl, SqL.of hb, at_box.2.1, l, _, _, _, rfl, rfl, SqL.of hl, hz', ?_⟩
          refine ⟨_, rfl, b, _, _, _, rfl, rfl, SqL.of hb, at_box.2.1, _, _, rfl, rfl, _, rfl, b, _, _, 1, rfl, rfl, hb, rfl, ?_⟩
          have h1 : ∀ (o : HO), upd H b o b = some o := fun o => upd_same
          have hc : ∀ (o : HO) c, c ≠ b → upd H b o c = H c := fun o c hc => upd_ne hc
          refine ⟨_, rfl, _, _, rfl, rfl, pow18, _, _, rfl, rfl, _, rfl, ?_⟩
          refine ite2 (fun _ => ?_) fun _ => ?_
          · refine ⟨_, rfl, _, _, rfl, rfl, pow18, _, _, rfl, rfl, _, rfl, b, _, _, 2, rfl, rfl, h1 _, rfl, ?_⟩
            exact ⟨some (.int z), i + 1, _, sd, rfl, upd_same, fun c hc' => by rw [upd_ne hc', upd_ne hc']⟩
          · refine ⟨_, rfl, b, _, _, _, rfl, rfl, SqL.of (h1 _), at_box.2.2.2, _, _, rfl, rfl, .inr ⟨by decide, by decide⟩, _, rfl, _, _, rfl, rfl, .inr ⟨by decide, by decide⟩, _, _, rfl, rfl, _, _, rfl, rfl, .inl ⟨_, rfl, _, _, rfl, rfl, (by show (0 : Int) < 2147483647; decide), _, rfl, b, _, _, 3, rfl, rfl, h1 _, rfl, ?_⟩⟩
            exact ⟨some (.int z), i + 1, q, _, rfl, upd_same, fun c hc' => by rw [upd_ne hc', upd_ne hc']⟩
        · refine if_f (decide_eq_false c2) ?_
          exact ⟨none, i, q, sd, rfl, hb, fun _ _ => rfl⟩
      · refine if_f (decide_eq_false c1) ?_
        exact ⟨none, i, q, sd, rfl, hb, fun _ _ => rfl⟩
    · rintro σ' H' ⟨v, i', q', s', rfl, hb', ho⟩
      refine ⟨_, rfl, b, _, _, _, rfl, rfl, SqL.of hb', at_box.2.2.1, _, _, rfl, rfl, _, rfl, ?_⟩
      refine ite2 (fun _ => ?_) fun _ => ?_
      · refine ⟨_, rfl, b, _, _, _, rfl, rfl, SqL.of hb', at_box.2.2.1, .inl ⟨_, rfl, _, rfl, _, _, rfl, rfl, hn0, ?_⟩⟩
        refine ⟨_, rfl, b, _, _, _, rfl, rfl, SqL.of hb', at_box.2.2.1, _, rfl, _, _, rfl, rfl, wide_div hn0 hn1 (by decide) (by decide), _, rfl, b, _, _, 2, rfl, rfl, hb', rfl, _, rfl, ?_⟩
        exact k _ _ (Int.emod_nonneg _ (by omega)) (Int.emod_lt_of_pos _ hn0) (keepB (q' := q' / n) upd_same fun c hc => (upd_ne hc).trans (ho c hc)) fun c hc => (upd_ne hc).trans (ho c hc)
      · refine ⟨_, rfl, b, _, _, _, rfl, rfl, SqL.of hb', at_box.2.2.2, _, _, rfl, rfl, .inr ⟨by decide, by decide⟩, .inl ⟨_, rfl, _, _, rfl, rfl, (by show (0 : Int) < 2147483647; decide), _, rfl, b, _, _, 3, rfl, rfl, hb', rfl, ?_⟩⟩
        refine ⟨_, rfl, b, _, _, _, rfl, rfl, SqL.of upd_same, at_box.2.2.2, _, _, rfl, rfl, ⟨by decide, by decide⟩, .inl ⟨_, rfl, _, rfl, _, _, rfl, rfl, hn0, ?_⟩⟩
        exact k _ _ (Int.emod_nonneg _ (by omega)) (Int.emod_lt_of_pos _ hn0) (keepB upd_same fun c hc => (upd_ne hc).trans (ho c hc)) fun c hc => (upd_ne hc).trans (ho c hc)

theorem cut63 {xs : List V} (h : xs.length ≤ 63) : cutV xs none (some 63) = xs := by
  unfold cutV
  have e0 : HT.sIx xs.length 0 none = 0 := rfl
  have e1 : HT.sIx xs.length xs.length (some 63) = xs.length := by
    unfold HT.sIx
    simp
    omega
  rw [e0, e1, List.drop_zero, Nat.sub_zero, List.take_length]
theorem scBox : FnScope ["_law_script", "_law_cell"] ["_law_script"] (defScope sBox) := ⟨rfl, rfl, rfl, by decide +kernel, rfl, by decide +kernel, by decide +kernel⟩
theorem ok_box {f : Addr} {fd : FuncData} (F : Fun K "_law_box" "_law_box" sBox f fd) (T : BoxTxt K mg) : FnOk P w K mg base CX0 1 f fd ["_law_script"] (spBox K) := by
  refine F.ok scBox (fun vs H Q E h => ?_) (fun cdv A outer s H vs Q E hr h => ?_)
  · obtain ⟨a, ns, rfl, _⟩ := h
    rfl
  · obtain ⟨a, ns, rfl, hS, h63, k⟩ := h
    refine ⟨_, pss_one (ps_ret (pe_lst (pa_cons (pe_lc (own := [("_law_cell", 1)]) (g := gName 1) (tt := tYes) (by rfl) scBox.nd (pi_list (pe_slice sl_list (pv 0) po_none (po_some pe_int)))
        (blkOk_by (own := [("_law_cell", 1)]) (N := ["_law_script", "_law_cell"]) (sc := defScope sBox) (by decide +kernel)) (fun _ _ _ _ _ => pg_name (i := 1) scBox.nd rfl (Or.inl rfl)) (fun _ _ _ _ _ => pts_nil)
        (fun _ _ _ _ _ => pe_callTy call_int1 (by rfl) T.int (by decide +kernel) (pa_cons (pv 1) pa_nil))) (pa_cons pe_int (pa_cons pe_int (pa_cons pe_int pa_nil)))))), ?_⟩
    have e63 : cutV (ns.map V.int) none (some 63) = ns.map V.int := cut63 (by rw [List.length_map]; exact h63)
    refine ⟨_, rfl, 63, rfl, a, _, rfl, hS, fun p hp => ?_⟩
    rw [e63]
    refine ⟨p, rfl, ⟨_, SqL.of upd_same⟩, fun D hD => ?_⟩
    have hpD : p ≠ D := fun z => by
      rw [z, upd_same] at hD
      cases hD
    have hD0 : H D = none := by rw [upd_ne (Ne.symm hpD)] at hD; exact hD
    refine lc_list (K := K) (a := p) (xs := ns.map V.int) (fun i H' => H' D = some (.lst ((ns.take i).map V.int)) ∧ H' p = some (.lst (ns.map V.int)) ∧ ∀ c, c ≠ D → c ≠ p → H' c = H c)
      ⟨upd_same, by rw [upd_ne hpD, upd_same], fun c h1 h2 => by rw [upd_ne h1, upd_ne h2]⟩ (fun i H' _ h => SqL.of h.2.1) ?_ ?_
    · rintro i y H' hi ⟨g1, g2, g3⟩
      obtain ⟨z, hz, rfl⟩ : ∃ z, ns[i]? = some z ∧ y = V.int z := by
        rw [List.getElem?_map] at hi
        cases e : ns[i]? with
        | none =>
          rw [e] at hi
          cases hi
        | some z =>
          rw [e] at hi
          exact ⟨z, rfl, (Option.some.inj hi).symm⟩
      refine ⟨rfl, ?_⟩
      have step : ∃ acc, H' D = some (.lst acc) ∧ acc.length < sizeLine ∧ (upd H' D (.lst (acc ++ [V.int z]))) D = some (.lst ((ns.take (i + 1)).map V.int)) ∧ (upd H' D (.lst (acc ++ [V.int z]))) p = some (.lst (ns.map V.int)) ∧
          ∀ c, c ≠ D → c ≠ p → (upd H' D (.lst (acc ++ [V.int z]))) c = H c := by
        refine ⟨_, g1, ?_, ?_⟩
        · rw [List.length_map, List.length_take]
          exact small1000 (by omega)
        · refine ⟨?_, by rw [upd_ne hpD]; exact g2, fun c h1 h2 => by rw [upd_ne h1]; exact g3 c h1 h2⟩
          rw [upd_same, List.take_succ, hz, Option.toList_some, List.map_append]
          rfl
      exact ⟨V.int z, rfl, .inl ⟨z, rfl, step⟩⟩
    · rintro H' ⟨g1, g2, g3⟩
      rw [List.length_map, List.take_length] at g1
      refine ⟨(by show 4 ≤ sizeLine; decide), fun b hb => ?_⟩
      have hDb : D ≠ b := ne_of_none g1 hb
      have hpb : p ≠ b := ne_of_none g2 hb
      refine k b D _ ⟨ns, 0, 0, 0, upd_same, by rw [upd_ne hDb]; exact g1, h63⟩ (by rw [← g3 b (Ne.symm hDb) (Ne.symm hpb)]; exact hb) hD0 fun c o hc => ?_
      have n1 : c ≠ D := ne_of_none hc hD0
      have n2 : c ≠ p := ne_of_none hc hp
      have n3 : c ≠ b := fun z => by
        rw [z, ← g3 b (Ne.symm hDb) (Ne.symm hpb), hb] at hc
        cases hc
      rw [upd_ne n3, g3 c n1 n2]
      exact hc
theorem scNum : FnScope ["_law_x"] ["_law_x"] (defScope sNum) := ⟨rfl, rfl, rfl, by decide +kernel, rfl, by decide +kernel, by decide +kernel⟩
def spNum : Sp := fun vs H Q _ => ∃ i : Int, vs = [.int i] ∧ Q (.bl true) H
structure NumTxt (mg : Str → Option Value) : Prop where
  isi : mg "isinstance" = none
  int : mg "int" = none
  bool : mg "bool" = none
theorem ok_num {f : Addr} {fd : FuncData} (F : Fun K "_law_number" "_law_number" sNum f fd) (T : NumTxt mg) : FnOk P w K mg base CX0 1 f fd ["_law_x"] spNum := by
  refine F.ok scNum (fun vs H Q E h => ?_) (fun cdv A outer s H vs Q E hr h => ?_)
  · obtain ⟨i, rfl, _⟩ := h
    rfl
  · obtain ⟨i, rfl, k⟩ := h
    refine ⟨_, pss_one (ps_ret (pe_and (pe_callB call_isi (by rfl) T.isi (by decide +kernel) (pa_cons (pv 0) (pa_cons (pe_bltn (v := .ty "int") (by rfl) T.int (by decide +kernel) rfl) pa_nil)))
      (pe_one (pe_not (pe_callB call_isi (by rfl) T.isi (by decide +kernel) (pa_cons (pv 0) (pa_cons (pe_bltn (v := .ty "bool") (by rfl) T.bool (by decide +kernel) rfl) pa_nil))))))), ?_⟩
    refine ⟨_, rfl, V.int i, .ty "int", .type "int", .type "int", true, rfl, .ty _, .base (.int i), by rfl, true, rfl, ?_⟩
    refine if_t rfl ⟨_, rfl, V.int i, .ty "bool", .type "int", .type "bool", false, rfl, .ty _, .base (.int i), by rfl, false, rfl, k⟩
end
end Law

namespace Law
open PySem PySem.Spec PyProof.Rows L2 Sup
abbrev sErr : Stmt := inClass (top 3) 0
abbrev sChk : Stmt := top 5
/-- the way out by BadNumber -/
def Bad (C : Addr) (E : XK) (H : Hp) (v : Int) : Prop := ∀ d, H d = none → E (.ref C) (some d) (upd H d (.xd [("value", .int v)]))
def spChk (C : Addr) : Sp := fun vs H Q E => ∃ i : Int, vs = [.int i] ∧ i.natAbs < 2 ^ 1000 ∧ (i < 0 → Bad C E H i) ∧ (0 ≤ i → Q .non H)
theorem log_of {i : Int} {k : Nat} (hk : 0 < k) (h : i.natAbs < 2 ^ k) : i.natAbs.log2 < k := by
  by_cases hz : i.natAbs = 0
  · rw [hz, Nat.log2_zero]
    exact hk
  · exact (Nat.log2_lt hz).mpr h
section
variable {P : Program} {w : World} {K : PySem.W.Frag} {mg : Str → Option Value} {base : Heap} {C : Addr}
theorem scChk : FnScope ["number"] ["number"] (defScope sChk) := ⟨rfl, rfl, rfl, by decide +kernel, rfl, by decide +kernel, by decide +kernel⟩
theorem ok_chk {f : Addr} {fd : FuncData} (F : Fun K "check_not_negative" "check_not_negative" sChk f fd) (R : ErrOk P w K mg base "BadNumber" C "value" okInt) : FnOk P w K mg base (L2.CX P w) 4 f fd ["number"] (spChk C) := by
  refine F.okX scChk (fun vs H Q E h => ?_) (fun cdv A outer s H vs Q E hr h => ?_)
  · obtain ⟨i, rfl, _⟩ := h
    rfl
  · obtain ⟨i, rfl, hi, h1, h2⟩ := h
    refine ⟨_, pss_one (ps_if (pt_cmpR op_lt (pv 0) pe_int (nomark _)) (pss_one (ps_err R rfl (takes_of rfl rfl rfl rfl) hr (pa_cons (pv 0) pa_nil) rfl)) pss_nil), ?_⟩
    refine ⟨_, rfl, _, _, rfl, rfl, _, rfl, ?_⟩
    by_cases c : i < 0
    · refine if_t (decide_eq_true c) ⟨_, rfl, err_way ⟨i, rfl, log_of (by decide) (Nat.lt_of_lt_of_le hi (Nat.pow_le_pow_right (by decide) (by decide)))⟩ (h1 c)⟩
    · exact if_f (decide_eq_false c) (h2 (by omega))
end
def Sz (i : Int) : Prop := i.natAbs < 2 ^ 200
theorem Sz.mul {a b : Int} (ha : a.natAbs < 2 ^ 300) (hb : b.natAbs < 2 ^ 300) : CMulW a b := wide_mul ha hb (by decide) (by decide) (by decide)
theorem Sz.w {a : Int} (ha : Sz a) : a.natAbs < 2 ^ 300 := Nat.lt_of_lt_of_le ha (Nat.pow_le_pow_right (by decide) (by decide))
theorem Sz.t {a : Int} (ha : Sz a) : a.natAbs < 2 ^ 1000 := Nat.lt_of_lt_of_le ha (Nat.pow_le_pow_right (by decide) (by decide))
theorem Sz.of {i : Int} (h : i.natAbs ≤ 10 ^ 42) : Sz i := Nat.lt_of_le_of_lt h (by decide +kernel)
theorem pow_ok {j : Int} (h : 0 ≤ j ∧ j ≤ 1000000) : CPow 10 j := ⟨h.1, h.2, by decide⟩
theorem size_fit {n : Int} (h0 : 0 < n) (h : n ≤ 10 ^ 40) : n.natAbs < 2 ^ 8000 := by
  have h1 : n.natAbs ≤ 10 ^ 40 := by omega
  exact Nat.lt_of_le_of_lt h1 (by decide +kernel)
end Law

namespace Law
open PySem PySem.Spec PyProof.Rows L2 Sup
section
variable {X : Cx} {CX : CXT} {k : Nat} {f : Addr} {sp : Sp} {E : XK} {x : Str} {p pos : Pos} {e : Expr} {es : List Expr} {t : TA}
/-- f(e, ..) of a def that takes its values as they come -/
theorem pe_callR (F : FnR X.prog X.w X.K X.mg X.base CX k f sp) (hr : Room k X.A) (hg : Gl X x) (hm : X.mg x = some (.ref f)) (hk : PySem.W.keepIn X.K (.ref f) = true) (hx : Passes CX X E)
    (ha : PA X (e :: es) t) (hdb : (x == ("__debug__" : Str)) = false := by decide)
    (he : starEach (e :: es) X.env = (false, eval e X.env) :: starEach es X.env := by rfl) (hpl : (backTo pos (starEach es X.env)).any (·.1) = false := by rfl) :
    PE X (.Call (.Name x p) (e :: es) [] pos) (fun σ H Q => t σ H fun vs H1 => sp vs H1 Q E) := by
  refine ⟨fun pins s σ H Q I h => ?_⟩
  refine wpAny_Call_Name_kw (ld_glob I hg hm ?_ hdb)
  refine PySem.W.callWith_K (h₀ := X.base) I.ok.mod.kin hk
    (thn (ha.run pos pins s σ H _ I h) fun us s1 ⟨vs, H1, I1, r, q⟩ => ⟨I1.kIn, ?_⟩) he hpl
  exact wpAny_call (run_fnR F hr hx I1 r q)
theorem pe_callR0 (F : FnR X.prog X.w X.K X.mg X.base CX k f sp) (hr : Room k X.A) (hg : Gl X x) (hm : X.mg x = some (.ref f)) (hk : PySem.W.keepIn X.K (.ref f) = true) (hx : Passes CX X E)
    (hdb : (x == ("__debug__" : Str)) = false := by decide) : PE X (.Call (.Name x p) [] [] pos) (fun σ H Q => sp [] H Q E) := by
  refine ⟨fun pins s σ H Q I h => ?_⟩
  refine wpAny_Call_Name_kw (ld_glob I hg hm ?_ hdb)
  exact PySem.W.callWith_K0 I.kIn hk (wpAny_call (run_fnR (us := []) F hr hx I .nil h))
/-- sum of a tuple of whole numbers -/
theorem cr_sumT (hc : X.calm = true) : CallR X (.builtin "sum") (fun vs H Q => ∃ (a : Addr) (ns : List Int), vs = [V.ref a] ∧ SqT X.K H a (ns.map V.int) ∧ Q (.int ns.sum) H) := by
  intro pins s σ H vs us Q I r h
  obtain ⟨a, ns, rfl, hs, q⟩ := h
  obtain ⟨its, rv, hl, _⟩ := I.tuple hs
  rw [Vals.ref1 r]
  have hi := rv.ints
  obtain ⟨xs, hx⟩ := hi.allInts.items
  have hn : numsOf (intItems xs).toList = ns := by rw [← hx]; exact hi.numsOf
  rw [nums_intItems] at hn
  rw [hx] at hl
  refine PySem.W.ktm_sumG (I.ok.hd hc) hl fun h' tk t' hk => ?_
  rw [preSum_eq, List.take_of_length_le (by simp), hn]
  exact ⟨.int _, H, I.kept hk, ⟨_, rfl⟩, q⟩
end
/-- the way out by BadNumber, from a heap in which all stands as it stood -/
def BadS (C : Addr) (E : XK) (H : Hp) (v : Int) : Prop := ∀ (H' : Hp) (d : Addr), Same H H' → H' d = none → E (.ref C) (some d) (upd H' d (.xd [("value", .int v)]))
/-- the first length that a join refuses -/
def lst (ls : List Int) : Int := if 1 < ls.length then 2 else 0
def refused (ls : List Int) : Option Int := ls.find? fun x => decide (x < lst ls)
def joinLen (ls : List Int) : Int := if ls = [] then 0 else ls.sum - ((ls.length : Int) - 1) * 1
def Small (ls : List Int) : Prop := ls.length ≤ 10 ∧ ∀ x ∈ ls, x.natAbs < 2 ^ 1000
def spJoin (C : Addr) (ls : List Int) (H : Hp) (Q : VK) (E : XK) : Prop := Small ls ∧ (∀ v, refused ls = some v → BadS C E H v) ∧ (refused ls = none → ∀ H', Same H H' → Q (.int (joinLen ls)) H')
def spJoined (C : Addr) : Sp := fun vs H Q E => ∃ ls : List Int, vs = ls.map V.int ∧ spJoin C ls H Q E
/-- the def itself: its parameter is the tuple at p -/
def spJoinT (C : Addr) : Sp := fun vs H Q E => ∃ (p : Addr) (ls : List Int), vs = [.ref p] ∧ H p = some (.tup (ls.map V.int)) ∧ Small ls ∧
  (∀ v, refused ls = some v → Bad C E H v) ∧ (refused ls = none → Q (.int (joinLen ls)) H)
abbrev sJoin : Stmt := top 7
structure OverTxt (K : PySem.W.Frag) (mg : Str → Option Value) (D : Addr) (mc : Value) (u : Value) : Prop where
  g : mg "Ladder" = some (.ref D)
  cr : ClX.CRead K D mc
  cv : ClX.CVal K D mc "OVERLAP" (.int 1) u
  len : mg "len" = none
  sum : mg "sum" = none
section
variable {P : Program} {w : World} {K : PySem.W.Frag} {mg : Str → Option Value} {base : Heap} {C D : Addr} {mc u : Value}
theorem scJoin : FnScope ["lengths", "least", "length"] ["lengths"] (defScope sJoin) := ⟨rfl, rfl, rfl, by decide +kernel, rfl, by decide +kernel, by decide +kernel⟩
theorem find_take {p : Int → Bool} {ls : List Int} {i : Nat} {x : Int} (h : ls[i]? = some x) (hn : (ls.take i).find? p = none) :
    (p x = true → ls.find? p = some x) ∧ (p x = false → (ls.take (i + 1)).find? p = none) := by
  have e : ls = ls.take i ++ x :: ls.drop (i + 1) := by
    obtain ⟨hi, hx⟩ := List.getElem?_eq_some_iff.mp h
    rw [← hx, List.getElem_cons_drop, List.take_append_drop]
  refine ⟨fun hp => ?_, fun hp => ?_⟩
  · rw [e, List.find?_append, hn]
    simp [hp]
  · rw [List.take_succ, h, Option.toList_some, List.find?_append, hn]
    simp [hp]
theorem ok_join {f : Addr} {fd : FuncData} (F : Fun K "joined_length" "joined_length" sJoin f fd) (R : ErrOk P w K mg base "BadNumber" C "value" okInt) (T : OverTxt K mg D mc u)
    (hb : ∀ rest : List Value, bindArgs fd ⟨rest, []⟩ = (newTuple rest >>= fun t => pure [(("lengths" : Str), t)])) : FnR P w K mg base (L2.CX P w) 4 f (spJoined C) := by
  obtain ⟨oc, od, kV, doc, pm, an, cdv, ct, osl, rfl, lk, hcd⟩ := F.ex
  refine (StX.fn_star (ps := []) (pv := "lengths") (sp := spJoinT C) (k := 3) lk hcd scJoin StX.cxUp (fun us rest hl => ?_) fun A outer s H vs Q E hr h => ?_).imp ?_
  · have e : us = [] := List.length_eq_zero_iff.mp hl
    subst e
    exact hb rest
  · obtain ⟨p, ls, rfl, hp, ⟨h10, hsz⟩, h1, h2⟩ := h
    refine ⟨_, (pss_cons (ps_if (pt_not (pt_truth (pv 0) (by intro _; rfl))) (pss_one (ps_ret pe_int)) pss_nil)
      (C8.pss_cut (ps_set (i := 1) scJoin.nd rfl (Or.inl rfl) (pe_ifExp (pt_cmpR op_gt (pe_callB call_len_seq (by rfl) T.len PySem.boot_len (pa_cons (pv 0) pa_nil)) pe_int (nomark _)) (pe_op op_add (ClX.pe_cval (pe_glob (v := .ref D) rfl T.g rfl)) pe_int) pe_int))
      (pss_cons (ps_for (passes_of rfl) rfl (pi_tup (pv 0)) (pg_name (i := 2) scJoin.nd rfl (Or.inl rfl)) (pss_one (ps_if (pt_cmpR op_lt (pv 2) (pv 1) (nomark _)) (pss_one (ps_err R rfl (takes_of rfl rfl rfl rfl) hr (pa_cons (pv 2) pa_nil) rfl)) pss_nil)))
      (pss_one (ps_ret (pe_op op_sub (pe_callB (cr_sumT rfl) (by rfl) T.sum (by decide +kernel) (pa_cons (pv 0) pa_nil)) (pe_op op_mul (pe_op op_sub (pe_callB call_len_seq (by rfl) T.len PySem.boot_len (pa_cons (pv 0) pa_nil)) pe_int) (ClX.pe_cval (pe_glob (v := .ref D) rfl T.g rfl))))))))), ?_⟩
    refine ⟨_, rfl, (!(ls.map V.int).isEmpty), .inr (.inl ⟨_, SqT.of hp, rfl⟩), ?_⟩
    by_cases he : ls = []
    · subst he
      exact if_t rfl (h2 rfl)
    · have hne : (ls.map V.int).isEmpty = false := by
        cases ls with
        | nil => exact absurd rfl he
        | cons a r => rfl
      refine if_f (by rw [hne]; rfl) ?_
      have eL : (((ls.map V.int).length : Nat) : Int) = (ls.length : Int) := by rw [List.length_map]
      refine ⟨fun σ' H' => H = H' ∧ σ' = [some (V.ref p), some (V.int (lst ls)), none], ?_, ?_⟩
      · refine ⟨_, rfl, p, _, rfl, .inr (SqT.of hp), _, _, rfl, rfl, _, rfl, ?_⟩
        rw [eL]
        by_cases c1 : (1 : Int) < (ls.length : Int)
        · refine if_t (decide_eq_true c1) ⟨D, mc, .int 1, u, rfl, T.cr, T.cv, _, _, rfl, rfl, rfl, ?_⟩
          unfold lst
          rw [if_pos (by omega)]
          rfl
        · refine if_f (decide_eq_false c1) ⟨rfl, ?_⟩
          unfold lst
          rw [if_neg (by omega)]
          rfl
      rintro σ' H' ⟨rfl, rfl⟩
      refine ⟨_, rfl, p, rfl, ⟨_, SqT.of hp⟩, for_tup (K := K) (a := p) (xs := ls.map V.int) (fun i σ' H' => H = H' ∧ (∃ v2 : Option V, σ' = [some (V.ref p), some (V.int (lst ls)), v2]) ∧ (ls.take i).find? (fun y => decide (y < lst ls)) = none)
        ⟨rfl, ⟨none, rfl⟩, rfl⟩ (fun i σ' H' _ h => by rw [← h.1]; exact SqT.of hp) ?_ ?_⟩
      · rintro i y σ' H' hi ⟨rfl, ⟨v2, rfl⟩, hf⟩
        obtain ⟨z, hz, rfl⟩ : ∃ z, ls[i]? = some z ∧ y = V.int z := by
          rw [List.getElem?_map] at hi
          cases e : ls[i]? with
          | none =>
            rw [e] at hi
            cases hi
          | some z =>
            rw [e] at hi
            exact ⟨z, rfl, (Option.some.inj hi).symm⟩
        have ft := find_take hz hf
        refine ⟨_, rfl, _, rfl, _, _, rfl, rfl, _, rfl, ?_⟩
        by_cases c : z < lst ls
        · exact if_t (decide_eq_true c) ⟨_, rfl, err_way ⟨z, rfl, log_of (by decide) (Nat.lt_of_lt_of_le (hsz z (List.mem_of_getElem? hz)) (Nat.pow_le_pow_right (by decide) (by decide)))⟩ (h1 z (ft.1 (decide_eq_true c)))⟩
        · exact if_f (decide_eq_false c) ⟨rfl, ⟨_, rfl⟩, ft.2 (decide_eq_false c)⟩
      · rintro σ' H' ⟨rfl, ⟨v2, rfl⟩, hf⟩
        rw [List.length_map, List.take_length] at hf
        refine ⟨_, rfl, p, ls, rfl, SqT.of hp, _, rfl, p, _, rfl, .inr (SqT.of hp), _, _, rfl, rfl, D, mc, .int 1, u, rfl, T.cr, T.cv, _, _, rfl, rfl, .inr ⟨by decide, by decide⟩, _, _, rfl, rfl, ?_⟩
        have k := h2 hf
        unfold joinLen at k
        rw [if_neg he] at k
        rw [eL]
        exact k
  · rintro vs H Q E ⟨ls, rfl, ⟨h10, hsz⟩, h1, h2⟩
    refine ⟨[], ls.map V.int, rfl, rfl, by rw [List.length_map, sizeLine_eq]; omega, fun p hp => ⟨p, ls, rfl, upd_same, ⟨h10, hsz⟩, fun v hv d hd => ?_, fun hn => h2 hn _ fun b o e => by rw [upd_ne (ne_of_none e hp)]; exact e⟩⟩
    exact h1 v hv _ d (fun b o e => by rw [upd_ne (ne_of_none e hp)]; exact e) hd
end
end Law

namespace Law
open PySem PySem.Spec PyProof.Rows L2 Sup
abbrev sCall : Stmt := top 13
abbrev sOut : Stmt := top 14
abbrev sLaw : Stmt := top 15
def spCall (C : Addr) : Sp := fun vs H Q E => ∃ (p : Addr) (ls : List Int), vs = [.ref p] ∧ H p = some (.lst (ls.map V.int)) ∧ ls.length ≤ 6 ∧ spJoin C ls H Q E
def told (ls : List Int) : List V := match refused ls with
  | some v => [.str "refused", .int v]
  | none => [.str "length", .int (joinLen ls)]
def spOut : Sp := fun vs H Q _ => ∃ (p : Addr) (ls : List Int), vs = [.ref p] ∧ H p = some (.lst (ls.map V.int)) ∧ ls.length ≤ 6 ∧ Small ls ∧ ∀ (t : Addr) (H' : Hp), H t = none → Same H H' → H' t = some (.tup (told ls)) → Q (.ref t) H'
structure Txt (K : PySem.W.Frag) (mg : Str → Option Value) (fJ fC fO fB fT fN : Addr) : Prop where
  join : mg "joined_length" = some (.ref fJ)
  call : mg "_law_call" = some (.ref fC)
  out : mg "_law_outcome" = some (.ref fO)
  box : mg "_law_box" = some (.ref fB)
  take : mg "_law_take" = some (.ref fT)
  num : mg "_law_number" = some (.ref fN)
  b_range : mg "range" = none
  b_len : mg "len" = none
  b_sum : mg "sum" = none
  bt : BoxTxt K mg
  nt : NumTxt mg
section
variable {P : Program} {w : World} {K : PySem.W.Frag} {mg : Str → Option Value} {base : Heap} {C D : Addr} {mc u : Value}
theorem scCall : FnScope ["_law_row"] ["_law_row"] (defScope sCall) := ⟨rfl, rfl, rfl, by decide +kernel, rfl, by decide +kernel, by decide +kernel⟩
theorem ok_call {f fJ fC fO fB fT fN : Addr} {fd : FuncData} (F : Fun K "_law_call" "_law_call" sCall f fd) (GJ : FnR P w K mg base (L2.CX P w) 4 fJ (spJoined C)) (kJ : PySem.W.keepIn K (.ref fJ) = true) (T : Txt K mg fJ fC fO fB fT fN) :
    FnOk P w K mg base (L2.CX P w) 5 f fd ["_law_row"] (spCall C) := by
  refine F.okX scCall (fun vs H Q E h => ?_) (fun cdv A outer s H vs Q E hr h => ?_)
  · obtain ⟨p, ls, rfl, _⟩ := h
    rfl
  · obtain ⟨p, ls, rfl, hp, h6, hj⟩ := h
    refine ⟨_, (pss_cons (ps_if (pt_cmpR op_eq (pe_callB call_len_seq (by rfl) T.b_len PySem.boot_len (pa_cons (pv 0) pa_nil)) pe_int (nomark _)) (pss_one (ps_ret (pe_callR0 (E := E) GJ hr rfl T.join kJ (passes_call (takes_of rfl rfl rfl rfl) fun _ _ _ _ z => z)))) pss_nil)
      (pss_cons (ps_if (pt_cmpR op_eq (pe_callB call_len_seq (by rfl) T.b_len PySem.boot_len (pa_cons (pv 0) pa_nil)) pe_int (nomark _)) (pss_one (ps_ret (pe_callR (E := E) GJ hr rfl T.join kJ (passes_call (takes_of rfl rfl rfl rfl) fun _ _ _ _ z => z) (pa_cons (pe_ix ix_list (pv 0) pe_int (fun _ _ => rfl)) pa_nil)))) pss_nil)
      (pss_cons (ps_if (pt_cmpR op_eq (pe_callB call_len_seq (by rfl) T.b_len PySem.boot_len (pa_cons (pv 0) pa_nil)) pe_int (nomark _)) (pss_one (ps_ret (pe_callR (E := E) GJ hr rfl T.join kJ (passes_call (takes_of rfl rfl rfl rfl) fun _ _ _ _ z => z) (pa_cons (pe_ix ix_list (pv 0) pe_int (fun _ _ => rfl)) (pa_cons (pe_ix ix_list (pv 0) pe_int (fun _ _ => rfl)) pa_nil))))) pss_nil)
      (pss_cons (ps_if (pt_cmpR op_eq (pe_callB call_len_seq (by rfl) T.b_len PySem.boot_len (pa_cons (pv 0) pa_nil)) pe_int (nomark _)) (pss_one (ps_ret (pe_callR (E := E) GJ hr rfl T.join kJ (passes_call (takes_of rfl rfl rfl rfl) fun _ _ _ _ z => z) (pa_cons (pe_ix ix_list (pv 0) pe_int (fun _ _ => rfl)) (pa_cons (pe_ix ix_list (pv 0) pe_int (fun _ _ => rfl)) (pa_cons (pe_ix ix_list (pv 0) pe_int (fun _ _ => rfl)) pa_nil)))))) pss_nil)
      (pss_cons (ps_if (pt_cmpR op_eq (pe_callB call_len_seq (by rfl) T.b_len PySem.boot_len (pa_cons (pv 0) pa_nil)) pe_int (nomark _)) (pss_one (ps_ret (pe_callR (E := E) GJ hr rfl T.join kJ (passes_call (takes_of rfl rfl rfl rfl) fun _ _ _ _ z => z) (pa_cons (pe_ix ix_list (pv 0) pe_int (fun _ _ => rfl)) (pa_cons (pe_ix ix_list (pv 0) pe_int (fun _ _ => rfl)) (pa_cons (pe_ix ix_list (pv 0) pe_int (fun _ _ => rfl)) (pa_cons (pe_ix ix_list (pv 0) pe_int (fun _ _ => rfl)) pa_nil))))))) pss_nil)
      (pss_cons (ps_if (pt_cmpR op_eq (pe_callB call_len_seq (by rfl) T.b_len PySem.boot_len (pa_cons (pv 0) pa_nil)) pe_int (nomark _)) (pss_one (ps_ret (pe_callR (E := E) GJ hr rfl T.join kJ (passes_call (takes_of rfl rfl rfl rfl) fun _ _ _ _ z => z) (pa_cons (pe_ix ix_list (pv 0) pe_int (fun _ _ => rfl)) (pa_cons (pe_ix ix_list (pv 0) pe_int (fun _ _ => rfl)) (pa_cons (pe_ix ix_list (pv 0) pe_int (fun _ _ => rfl)) (pa_cons (pe_ix ix_list (pv 0) pe_int (fun _ _ => rfl)) (pa_cons (pe_ix ix_list (pv 0) pe_int (fun _ _ => rfl)) pa_nil)))))))) pss_nil)
      (pss_one (ps_ret (pe_callR (E := E) GJ hr rfl T.join kJ (passes_call (takes_of rfl rfl rfl rfl) fun _ _ _ _ z => z) (pa_cons (pe_ix ix_list (pv 0) pe_int (fun _ _ => rfl)) (pa_cons (pe_ix ix_list (pv 0) pe_int (fun _ _ => rfl)) (pa_cons (pe_ix ix_list (pv 0) pe_int (fun _ _ => rfl)) (pa_cons (pe_ix ix_list (pv 0) pe_int (fun _ _ => rfl)) (pa_cons (pe_ix ix_list (pv 0) pe_int (fun _ _ => rfl)) (pa_cons (pe_ix ix_list (pv 0) pe_int (fun _ _ => rfl)) pa_nil))))))))))))))), ?_⟩
    match ls, h6, hp, hj with
    | [], _, hp, hj =>
      refine ⟨_, rfl, p, _, rfl, .inl (SqL.of hp), rfl, _, rfl, if_t (by rfl) ?_⟩
      exact ⟨[], rfl, hj⟩
    | [x0], _, hp, hj =>
      refine ⟨_, rfl, p, _, rfl, .inl (SqL.of hp), rfl, _, rfl, if_f (by rfl) ?_⟩
      refine ⟨_, rfl, p, _, rfl, .inl (SqL.of hp), rfl, _, rfl, if_t (by rfl) ?_⟩
      refine ⟨_, rfl, p, _, _, _, rfl, rfl, SqL.of hp, rfl, [x0], rfl, hj⟩
    | [x0, x1], _, hp, hj =>
      refine ⟨_, rfl, p, _, rfl, .inl (SqL.of hp), rfl, _, rfl, if_f (by rfl) ?_⟩
      refine ⟨_, rfl, p, _, rfl, .inl (SqL.of hp), rfl, _, rfl, if_f (by rfl) ?_⟩
      refine ⟨_, rfl, p, _, rfl, .inl (SqL.of hp), rfl, _, rfl, if_t (by rfl) ?_⟩
      refine ⟨_, rfl, p, _, _, _, rfl, rfl, SqL.of hp, rfl, _, rfl, p, _, _, _, rfl, rfl, SqL.of hp, rfl, [x0, x1], rfl, hj⟩
    | [x0, x1, x2], _, hp, hj =>
      refine ⟨_, rfl, p, _, rfl, .inl (SqL.of hp), rfl, _, rfl, if_f (by rfl) ?_⟩
      refine ⟨_, rfl, p, _, rfl, .inl (SqL.of hp), rfl, _, rfl, if_f (by rfl) ?_⟩
      refine ⟨_, rfl, p, _, rfl, .inl (SqL.of hp), rfl, _, rfl, if_f (by rfl) ?_⟩
      refine ⟨_, rfl, p, _, rfl, .inl (SqL.of hp), rfl, _, rfl, if_t (by rfl) ?_⟩
      refine ⟨_, rfl, p, _, _, _, rfl, rfl, SqL.of hp, rfl, _, rfl, p, _, _, _, rfl, rfl, SqL.of hp, rfl, _, rfl, p, _, _, _, rfl, rfl, SqL.of hp, rfl, [x0, x1, x2], rfl, hj⟩
    | [x0, x1, x2, x3], _, hp, hj =>
      refine ⟨_, rfl, p, _, rfl, .inl (SqL.of hp), rfl, _, rfl, if_f (by rfl) ?_⟩
      refine ⟨_, rfl, p, _, rfl, .inl (SqL.of hp), rfl, _, rfl, if_f (by rfl) ?_⟩
      refine ⟨_, rfl, p, _, rfl, .inl (SqL.of hp), rfl, _, rfl, if_f (by rfl) ?_⟩
      refine ⟨_, rfl, p, _, rfl, .inl (SqL.of hp), rfl, _, rfl, if_f (by rfl) ?_⟩
      refine ⟨_, rfl, p, _, rfl, .inl (SqL.of hp), rfl, _, rfl, if_t (by rfl) ?_⟩
      refine ⟨_, rfl, p, _, _, _, rfl, rfl, SqL.of hp, rfl, _, rfl, p, _, _, _, rfl, rfl, SqL.of hp, rfl, _, rfl, p, _, _, _, rfl, rfl, SqL.of hp, rfl, _, rfl, p, _, _, _, rfl, rfl, SqL.of hp, rfl, [x0, x1, x2, x3], rfl, hj⟩
    | [x0, x1, x2, x3, x4], _, hp, hj =>
      refine ⟨_, rfl, p, _, rfl, .inl (SqL.of hp), rfl, _, rfl, if_f (by rfl) ?_⟩
      refine ⟨_, rfl, p, _, rfl, .inl (SqL.of hp), rfl, _, rfl, if_f (by rfl) ?_⟩
      refine ⟨_, rfl, p, _, rfl, .inl (SqL.of hp), rfl, _, rfl, if_f (by rfl) ?_⟩
      refine ⟨_, rfl, p, _, rfl, .inl (SqL.of hp), rfl, _, rfl, if_f (by rfl) ?_⟩
      refine ⟨_, rfl, p, _, rfl, .inl (SqL.of hp), rfl, _, rfl, if_f (by rfl) ?_⟩
      refine ⟨_, rfl, p, _, rfl, .inl (SqL.of hp), rfl, _, rfl, if_t (by rfl) ?_⟩
      refine ⟨_, rfl, p, _, _, _, rfl, rfl, SqL.of hp, rfl, _, rfl, p, _, _, _, rfl, rfl, SqL.of hp, rfl, _, rfl, p, _, _, _, rfl, rfl, SqL.of hp, rfl, _, rfl, p, _, _, _, rfl, rfl, SqL.of hp, rfl, _, rfl, p, _, _, _, rfl, rfl, SqL.of hp, rfl, [x0, x1, x2, x3, x4], rfl, hj⟩
    | [x0, x1, x2, x3, x4, x5], _, hp, hj =>
      refine ⟨_, rfl, p, _, rfl, .inl (SqL.of hp), rfl, _, rfl, if_f (by rfl) ?_⟩
      refine ⟨_, rfl, p, _, rfl, .inl (SqL.of hp), rfl, _, rfl, if_f (by rfl) ?_⟩
      refine ⟨_, rfl, p, _, rfl, .inl (SqL.of hp), rfl, _, rfl, if_f (by rfl) ?_⟩
      refine ⟨_, rfl, p, _, rfl, .inl (SqL.of hp), rfl, _, rfl, if_f (by rfl) ?_⟩
      refine ⟨_, rfl, p, _, rfl, .inl (SqL.of hp), rfl, _, rfl, if_f (by rfl) ?_⟩
      refine ⟨_, rfl, p, _, rfl, .inl (SqL.of hp), rfl, _, rfl, if_f (by rfl) ?_⟩
      refine ⟨_, rfl, p, _, _, _, rfl, rfl, SqL.of hp, rfl, _, rfl, p, _, _, _, rfl, rfl, SqL.of hp, rfl, _, rfl, p, _, _, _, rfl, rfl, SqL.of hp, rfl, _, rfl, p, _, _, _, rfl, rfl, SqL.of hp, rfl, _, rfl, p, _, _, _, rfl, rfl, SqL.of hp, rfl, _, rfl, p, _, _, _, rfl, rfl, SqL.of hp, rfl, [x0, x1, x2, x3, x4, x5], rfl, hj⟩
    | _ :: _ :: _ :: _ :: _ :: _ :: _ :: _, h6, _, _ => simp at h6
theorem scOut : FnScope ["_law_row", "e"] ["_law_row"] (defScope sOut) := ⟨rfl, rfl, rfl, by decide +kernel, rfl, by decide +kernel, by decide +kernel⟩
theorem ok_out {f fJ fC fO fB fT fN : Addr} {fd fdC : FuncData} (F : Fun K "_law_outcome" "_law_outcome" sOut f fd) (R : ErrOk P w K mg base "BadNumber" C "value" okInt)
    (GC : FnOk P w K mg base (L2.CX P w) 5 fC fdC ["_law_row"] (spCall C)) (kC : PySem.W.keepIn K (.ref fC) = true) (bC : Binds K fdC ["_law_row"] []) (T : Txt K mg fJ fC fO fB fT fN) :
    FnOk P w K mg base CX0 6 f fd ["_law_row"] spOut := by
  refine F.ok scOut (fun vs H Q E h => ?_) (fun cdv A outer s H vs Q E hr h => ?_)
  · obtain ⟨p, ls, rfl, _⟩ := h
    rfl
  · obtain ⟨p, ls, rfl, hp, h6, hs, k⟩ := h
    refine ⟨_, pss_one (ps_try_as (i := 1) (tb := fun W => tRet (tTup (tCons (tC (.str "length")) (tCons (tCallS (spCall C) (WE W) (tCons (tVar 0) tNil)) tNil)))) (ts := fun a cls d => tRet (tTup (tCons (tC (.str "refused")) (tCons (tXf a cls d C "value" (tVar 1)) tNil))))
        (Wout := fun _ _ _ _ => False) rfl rfl scOut.nd rfl rfl ⟨rfl, by decide, Or.inl R.g⟩ takes0
        (fun W pn xe tk _ => pss_one (ps_ret (pe_tup (pa_cons pe_str (pa_cons (by exact (pe_callS GC hr rfl T.call kC bC (fun σ => passAt tk σ) (by exact (pa_cons (pv 0) pa_nil)))) pa_nil)))))
        (fun a oe cls d pn hz hf => pss_one (ps_ret (pe_tup (pa_cons pe_str (by exact (pa_cons (pe_xf R.xf R.no hz hf (pv 1)) pa_nil))))))), ?_⟩
    refine ⟨_, rfl, p, ls, rfl, hp, h6, hs, fun v hv H' d sH hd => ?_, fun hn H' sH => ?_⟩
    · refine ⟨true, R.te, fun _ a ha => ?_, fun z => Bool.noConfusion z⟩
      refine ⟨_, rfl, rfl, rfl, d, _, _, rfl, upd_same, rfl, by show 2 ≤ sizeLine; decide, fun t ht => ?_⟩
      have nt : t ≠ d := fun z => by
        rw [z, upd_same] at ht
        cases ht
      have ht' : H' t = none := by rw [upd_ne nt] at ht; exact ht
      refine k t _ (sH.free ht') (fun b o e => ?_) ?_
      · rw [upd_ne (ne_of_none (sH _ _ e) ht'), upd_ne (ne_of_none (sH _ _ e) hd)]
        exact sH _ _ e
      · rw [upd_same]
        unfold told
        rw [hv]
    · refine ⟨by show 2 ≤ sizeLine; decide, fun t ht => ?_⟩
      refine k t _ (sH.free ht) (fun b o e => ?_) ?_
      · rw [upd_ne (ne_of_none (sH _ _ e) ht)]
        exact sH _ _ e
      · rw [upd_same]
        unfold told
        rw [hn]
end
end Law

namespace Law
open PySem PySem.Spec PyProof.Rows L2 Sup
def spLaw (K : PySem.W.Frag) : Sp := fun vs H Q _ => ∃ (a : Addr) (ns : List Int), vs = [.ref a] ∧ SqL K H a (ns.map V.int) ∧ ns.length ≤ 63 ∧ ∀ H', Q (.bl true) H'
theorem shaped_si {x : Str} {n : Int} (h : PyData.canLay0 (.str x) = true) : SeqAt.shaped (.tuple [.str x, .int n]) = true := by
  have h1 : PyData.canLay0 (.tuple [.str x, .int n]) = true := by
    simp only [PyData.canLay0, PyData.canLayAll0] at h ⊢
    simp [h]
  have h2 : PyData.depth (.tuple [.str x, .int n]) ≤ 64 := by
    simp [PyData.depth, PyData.depthAll]
  unfold SeqAt.shaped
  rw [h1, decide_eq_true h2]
  rfl
def rLenK (K : PySem.W.Frag) : List V → Hp → VK → Prop := fun xs H Q => ∃ (p : Addr) (ys : List V), xs = [V.ref p] ∧ (SqL K H p ys ∨ SqT K H p ys) ∧ Q (V.int (ys.length : Int)) H
section
variable {P : Program} {w : World} {K : PySem.W.Frag} {mg : Str → Option Value} {base : Heap} {C D : Addr} {mc u : Value}
theorem scLaw : FnScope ["_law_script", "_law_box_here", "_law_row", "_law_k", "_law_length", "_law_great", "_law_bad", "_law_due", "_law_told"] ["_law_script"] (defScope sLaw) := ⟨rfl, rfl, rfl, by decide +kernel, rfl, by decide +kernel, by decide +kernel⟩
theorem ok_law {f fJ fC fO fB fT fN : Addr} {fd fdJ fdC fdO fdB fdT fdN : FuncData} (F : Fun K "law" "law" sLaw f fd) (R : ErrOk P w K mg base "BadNumber" C "value" okInt) (T : Txt K mg fJ fC fO fB fT fN) (OT : OverTxt K mg D mc u)
    (FJ : Fun K "joined_length" "joined_length" sJoin fJ fdJ) (hb : ∀ rest : List Value, bindArgs fdJ ⟨rest, []⟩ = (newTuple rest >>= fun t => pure [(("lengths" : Str), t)]))
    (FC : Fun K "_law_call" "_law_call" sCall fC fdC) (bC : Binds K fdC ["_law_row"] []) (FO : Fun K "_law_outcome" "_law_outcome" sOut fO fdO) (bO : Binds K fdO ["_law_row"] [])
    (FB : Fun K "_law_box" "_law_box" sBox fB fdB) (bB : Binds K fdB ["_law_script"] []) (FT : Fun K "_law_take" "_law_take" sTake fT fdT) (bT : Binds K fdT ["_law_box_here", "_law_size"] [])
    (FN : Fun K "_law_number" "_law_number" sNum fN fdN) (bN : Binds K fdN ["_law_x"] []) :
    FnOk P w K mg base CX0 7 f fd ["_law_script"] (spLaw K) := by
  have GJ := ok_join (w := w) (base := base) FJ R OT hb
  have GC := ok_call FC GJ FJ.kp T
  have GO := ok_out FO R GC FC.kp bC T
  have GB : FnOk P w K mg base CX0 1 fB fdB ["_law_script"] (spBox K) := ok_box FB T.bt
  have GT : FnOk P w K mg base CX0 1 fT fdT ["_law_box_here", "_law_size"] spTake := ok_take FT T.bt
  have GN : FnOk P w K mg base CX0 1 fN fdN ["_law_x"] spNum := ok_num FN T.nt
  refine F.ok scLaw (fun vs H Q E h => ?_) (fun cdv A outer s H vs Q E hr h => ?_)
  · obtain ⟨a, ns, rfl, _⟩ := h
    rfl
  · obtain ⟨a, ns, rfl, hS, h63, k⟩ := h
    have hr1 : Room 1 _ := hr.mono (by decide)
    refine ⟨_, (pss_cons (ps_set (i := 1) scLaw.nd rfl (Or.inl rfl) (pe_call GB hr1 rfl T.box FB.kp bB .nil pass0 (pa_cons (pv 0) pa_nil)))
      (pss_cons (ps_if (PW.pt (pw_or (pt_not (pt_val (pe_call GN hr1 rfl T.num FN.kp bN .nil pass0 (pa_cons (ClX.pe_cval (pe_glob (v := .ref D) rfl OT.g rfl)) pa_nil)))) (pw_or1 (pt_cmpR op_ne (ClX.pe_cval (pe_glob (v := .ref D) rfl OT.g rfl)) pe_int (nomark _))))) (pss_one (ps_ret pe_bl)) pss_nil)
      (pss_cons (ps_set (i := 2) scLaw.nd rfl (Or.inr rfl) (pe_lst pa_nil))
      (pss_cons (ps_for PassesOwn.never rfl (pi_range1 (by rfl) T.b_range (pa_cons (pe_call GT hr1 rfl T.take FT.kp bT .nil pass0 (pa_cons (pv 1) (pa_cons pe_int pa_nil))) pa_nil)) (pg_name (i := 3) scLaw.nd rfl (Or.inl rfl)) (pss_cons (ps_set (i := 4) scLaw.nd rfl (Or.inl rfl) (pe_call GT hr1 rfl T.take FT.kp bT .nil pass0 (pa_cons (pv 1) (pa_cons pe_int pa_nil))))
      (pss_cons (ps_set (i := 5) scLaw.nd rfl (Or.inl rfl) (pe_call GT hr1 rfl T.take FT.kp bT .nil pass0 (pa_cons (pv 1) (pa_cons (pe_op op_pow pe_int pe_int) pa_nil))))
      (pss_one (ps_expr (pe_bm PySem.F.plainAttrs_list PySem.F.slot_list_append PySem.F.type_list_append mt_append (pv 2) (pa_cons (pe_ix ix_list (pe_lst (pa_cons (pv 4) (pa_cons (pv 5) pa_nil))) (pe_call GT hr1 rfl T.take FT.kp bT .nil pass0 (pa_cons (pv 1) (pa_cons pe_int pa_nil))) (fun _ _ => rfl)) pa_nil)))))))
      (C8.pss_cut (ps_if (PW.pt (pw_and (pt_cmpR op_gt (pe_callB call_len_seq (by rfl) T.b_len PySem.boot_len (pa_cons (pv 2) pa_nil)) pe_int (nomark _)) (pw_and1 (pt_cmpR op_eq (pe_call GT hr1 rfl T.take FT.kp bT .nil pass0 (pa_cons (pv 1) (pa_cons pe_int pa_nil))) pe_int (nomark _))))) (pss_one (ps_asg (pe_op op_sub (pe_un un_neg pe_int) (pe_call GT hr1 rfl T.take FT.kp bT .nil pass0 (pa_cons (pv 1) (pa_cons pe_int pa_nil)))) (pg_sub (pv 2) (pe_call GT hr1 rfl T.take FT.kp bT .nil pass0 (pa_cons (pv 1) (pa_cons (pe_callB call_len_seq (by rfl) T.b_len PySem.boot_len (pa_cons (pv 2) pa_nil)) pa_nil))) set_list))) pss_nil)
      (pss_cons (ps_setLc (i := 6) (own := [("_law_length", 4)]) (g := gName 4) (by rfl) scLaw.nd rfl rfl (sw_true rfl rfl rfl (by decide +kernel)) (pi_list (pv 2)) (blkOk_by (own := [("_law_length", 4)]) (N := ["_law_script", "_law_box_here", "_law_row", "_law_k", "_law_length", "_law_great", "_law_bad", "_law_due", "_law_told"]) (sc := defScope sLaw) (by decide +kernel)) (fun _ _ _ _ _ => pg_name (i := 4) scLaw.nd rfl (Or.inl rfl)) (fun _ _ _ _ _ => (pts_one (PW.pt (pw_or (pt_cmpR op_lt (pv 4) pe_int (nomark _)) (pw_or1 (PW.pt (pw_and (pt_cmpR op_gt (pe_callB (r := rLenK K) call_len_seq (by rfl) T.b_len PySem.boot_len (pa_cons (pv 2) pa_nil)) pe_int (nomark _)) (pw_and1 (pt_cmpR op_le (pv 4) pe_int (nomark _)))))))))) (fun _ _ _ _ _ => (pv 4)))
      (pss_cons (ps_set (i := 7) scLaw.nd rfl (Or.inl rfl) (pe_tup (pa_cons pe_str (pa_cons pe_int pa_nil))))
      (C8.pss_cut (ps_if (pt_cmpR op_gt (pe_callB call_len_seq (by rfl) T.b_len PySem.boot_len (pa_cons (pv 2) pa_nil)) pe_int (nomark _)) (pss_one (ps_set (i := 7) scLaw.nd rfl (Or.inl rfl) (pe_tup (pa_cons pe_str (pa_cons (pe_op op_add (pe_op op_sub (pe_callB (cr_sum rfl) (by rfl) T.b_sum (by decide +kernel) (pa_cons (pv 2) pa_nil)) (pe_callB call_len_seq (by rfl) T.b_len PySem.boot_len (pa_cons (pv 2) pa_nil))) pe_int) pa_nil))))) pss_nil)
      (C8.pss_cut (ps_if (pt_cmpR op_gt (pe_callB call_len_seq (by rfl) T.b_len PySem.boot_len (pa_cons (pv 6) pa_nil)) pe_int (nomark _)) (pss_one (ps_set (i := 7) scLaw.nd rfl (Or.inl rfl) (pe_tup (pa_cons pe_str (pa_cons (pe_ix ix_list (pv 6) pe_int (fun _ _ => rfl)) pa_nil))))) pss_nil)
      (pss_cons (ps_set (i := 8) scLaw.nd rfl (Or.inl rfl) (pe_call GO hr rfl T.out FO.kp bO .nil pass0 (pa_cons (pv 2) pa_nil)))
      (pss_one (ps_ret (pe_and (pe_call GN hr1 rfl T.num FN.kp bN .nil pass0 (pa_cons (pe_ix ix_tup (pv 8) pe_int (fun _ _ => rfl)) pa_nil)) (pe_one (pe_cmpR (op_eqD hr.units) (pv 8) (pv 7) (nomark _)))))))))))))))), ?_⟩
    refine ⟨_, rfl, a, ns, rfl, hS, h63, fun b l H1 B1 nb nl s1 => ?_⟩
    refine ⟨D, mc, .int 1, u, rfl, OT.cr, OT.cv, 1, rfl, true, rfl, if_f rfl ⟨D, mc, .int 1, u, rfl, OT.cr, OT.cv, rfl, _, rfl, if_f (by decide) ?_⟩⟩
    refine ⟨by show 0 ≤ sizeLine; decide, fun r hr0 => ?_⟩
    have nrb : r ≠ b := fun e => by
      obtain ⟨_, _, _, _, q, _⟩ := B1
      rw [e, q] at hr0
      cases hr0
    have nrl : r ≠ l := fun e => by
      obtain ⟨_, _, _, _, _, q, _⟩ := B1
      rw [e, q] at hr0
      cases hr0
    have B2 : Box (upd H1 r (.lst [])) b l := B1.keep fun c hc => by
      rcases hc with rfl | rfl
      · exact upd_ne (Ne.symm nrb)
      · exact upd_ne (Ne.symm nrl)
    -- the lengths
    refine ⟨_, rfl, b, l, _, rfl, B2, by decide, by decide, fun m H3 m0 m7 B3 k3 => ⟨m, rfl, by omega, by omega, for_range (lo := 0) (n := m.toNat) (fun i σ' H' => ∃ (ls : List Int) (v3 v4 v5 : Option V),
        σ' = [some (.ref a), some (.ref b), some (.ref r), v3, v4, v5, none, none, none] ∧ H' r = some (.lst (ls.map V.int)) ∧ ls.length = i ∧ (∀ x ∈ ls, x.natAbs ≤ 10 ^ 21) ∧ Box H' b l)
      ⟨[], none, none, none, rfl, (k3 r nrb).trans upd_same, rfl, fun x hx => absurd hx (by simp), B3⟩ ?_ ?_⟩⟩
    · rintro i σ' H' hi ⟨ls, v3, v4, v5, rfl, hr1', hl, hx, B'⟩
      refine ⟨_, rfl, b, l, _, rfl, B', by decide, by decide, fun q1 H4 a0 a1 B4 k4 => ?_⟩
      refine ⟨_, rfl, _, _, rfl, rfl, pow_ok (by decide), b, l, _, rfl, B4, by decide +kernel, by decide +kernel, fun q2 H5 b0 b1 B5 k5 => ?_⟩
      have h5 : H5 r = some (.lst (ls.map V.int)) := (k5 r nrb).trans ((k4 r nrb).trans hr1')
      refine ⟨_, rfl, .inl ⟨rfl, _, SqL.of h5⟩, _, rfl, _, rfl, by show 2 ≤ sizeLine; decide, fun d hd => ?_⟩
      have ndb : d ≠ b := fun e => by
        obtain ⟨_, _, _, _, q, _⟩ := B5
        rw [e, q] at hd
        cases hd
      have ndr : r ≠ d := ne_of_none h5 hd
      have B6 : Box (upd H5 d (.lst [V.int q1, V.int q2])) b l := B5.keep fun c hc => by
        refine upd_ne fun e => ?_
        rcases hc with rfl | rfl
        · exact ndb e.symm
        · obtain ⟨_, _, _, _, _, q, _⟩ := B5
          rw [← e, q] at hd
          cases hd
      refine ⟨_, rfl, b, l, _, rfl, B6, by decide, by decide, fun j H6 j0 j2 B7 k6 => ?_⟩
      obtain ⟨y, ey, hy⟩ : ∃ y : Int, atI [V.int q1, V.int q2] j = some (.int y) ∧ y.natAbs ≤ 10 ^ 21 := by
        have b1' : q2 < 10 ^ 20 := b1
        have : j = 0 ∨ j = 1 := by omega
        rcases this with rfl | rfl
        · exact ⟨q1, rfl, by omega⟩
        · exact ⟨q2, rfl, by omega⟩
      have h6 : H6 r = some (.lst (ls.map V.int)) := (k6 r nrb).trans ((upd_ne ndr).trans h5)
      refine ⟨d, _, _, _, rfl, rfl, SqL.of ((k6 d ndb).trans upd_same), ey, r, _, _, rfl, rfl, h6, by rw [List.length_map]; exact small1000 (by omega), ?_⟩
      refine ⟨ls ++ [y], _, _, _, rfl, by rw [upd_same, List.map_append]; rfl, by rw [List.length_append, hl]; rfl, fun x hxx => ?_, B7.keep fun c hc => ?_⟩
      · rcases List.mem_append.mp hxx with z | z
        · exact hx x z
        · rw [List.mem_singleton.mp z]
          exact hy
      · refine upd_ne fun e => ?_
        rcases hc with rfl | rfl
        · exact nrb e.symm
        · exact nrl e.symm
    rintro σ' H' ⟨ls, v3, v4, v5, rfl, hrr, hl, hx, B'⟩
    have h6 : ls.length ≤ 6 := by omega
    -- one negative length
    refine ⟨fun σ' H' => ∃ ls : List Int, σ' = [some (.ref a), some (.ref b), some (.ref r), v3, v4, v5, none, none, none] ∧ H' r = some (.lst (ls.map V.int)) ∧ ls.length ≤ 6 ∧ (∀ x ∈ ls, x.natAbs ≤ 10 ^ 21), ?_, ?_⟩
    · refine ⟨_, rfl, r, _, rfl, .inl (SqL.of hrr), _, _, rfl, rfl, _, rfl, ?_⟩
      rw [List.length_map]
      by_cases c1 : (0 : Int) < (ls.length : Int)
      · refine if_t (decide_eq_true c1) ?_
        refine ⟨_, rfl, b, l, _, rfl, B', by decide, by decide, fun q H4 a0 a1 B4 k4 => ⟨rfl, _, rfl, ?_⟩⟩
        have h4 : H4 r = some (.lst (ls.map V.int)) := (k4 r nrb).trans hrr
        refine ite2 (fun _ => ?_) fun _ => ⟨ls, rfl, h4, h6, hx⟩
        refine ⟨_, rfl, _, rfl, b, l, _, rfl, B4, by decide, by decide, fun q2 H5 b0 b1 B5 k5 => ?_⟩
        have h5 : H5 r = some (.lst (ls.map V.int)) := (k5 r nrb).trans h4
        refine ⟨_, _, rfl, rfl, _, rfl, _, rfl, _, rfl, r, _, rfl, .inl (SqL.of h5), b, l, _, rfl, B5, by rw [List.length_map]; exact c1, by rw [List.length_map]; exact size_fit c1 (by omega), fun j H6 j0 j1 B6 k6 => ?_⟩
        rw [List.length_map] at j1
        have h7 : H6 r = some (.lst (ls.map V.int)) := (k6 r nrb).trans h5
        refine ⟨r, _, _, j.toNat, rfl, rfl, h7, ?_, ls.set j.toNat (-1 - q2), rfl, ?_, by rw [List.length_set]; exact h6, fun x hxx => ?_⟩
        · unfold ixN
          rw [if_pos j0, List.length_map, if_pos j1]
        · rw [upd_same, List.map_set]
        · rcases List.mem_or_eq_of_mem_set hxx with z | z
          · exact hx x z
          · rw [z]
            omega
      · exact if_f (decide_eq_false c1) ⟨ls, rfl, hrr, h6, hx⟩
    clear hx h6 hl hrr ls
    rintro σ' H' ⟨ls, rfl, hrr, h6, hx⟩
    have sm : Small ls := ⟨by omega, fun x hxx => Nat.lt_of_le_of_lt (hx x hxx) (by decide +kernel)⟩
    -- the bad ones
    refine ⟨_, rfl, r, rfl, ⟨_, SqL.of hrr⟩, fun Dd hD => ?_⟩
    have nrD : r ≠ Dd := ne_of_none hrr hD
    refine lc_list (K := K) (a := r) (xs := ls.map V.int) (fun i H2 => H2 Dd = some (.lst (((ls.take i).filter fun x => decide (x < lst ls)).map V.int)) ∧ H2 r = some (.lst (ls.map V.int)))
      ⟨upd_same, by rw [upd_ne nrD]; exact hrr⟩ (fun i H2 _ h => SqL.of h.2) ?_ ?_
    · rintro i y H2 hi ⟨g1, g2⟩
      obtain ⟨z, hz, rfl⟩ : ∃ z, ls[i]? = some z ∧ y = V.int z := by
        rw [List.getElem?_map] at hi
        cases e : ls[i]? with
        | none =>
          rw [e] at hi
          cases hi
        | some z =>
          rw [e] at hi
          exact ⟨z, rfl, (Option.some.inj hi).symm⟩
      have keepy : decide (z < lst ls) = true → ∃ acc, H2 Dd = some (.lst acc) ∧ acc.length < sizeLine ∧ (upd H2 Dd (.lst (acc ++ [V.int z]))) Dd = some (.lst (((ls.take (i + 1)).filter fun x => decide (x < lst ls)).map V.int)) ∧ (upd H2 Dd (.lst (acc ++ [V.int z]))) r = some (.lst (ls.map V.int)) := fun hp => by
        refine ⟨_, g1, ?_, ?_, by rw [upd_ne nrD]; exact g2⟩
        · rw [List.length_map]
          refine small1000 (Nat.le_trans (List.length_filter_le _ _) ?_)
          rw [List.length_take]
          omega
        · rw [upd_same, List.take_succ, hz, Option.toList_some, List.filter_append, List.map_append]
          simp [hp]
      have dropy : decide (z < lst ls) = false → H2 Dd = some (.lst (((ls.take (i + 1)).filter fun x => decide (x < lst ls)).map V.int)) ∧ H2 r = some (.lst (ls.map V.int)) := fun hp => by
        refine ⟨?_, g2⟩
        rw [g1, List.take_succ, hz, Option.toList_some, List.filter_append]
        simp [hp]
      refine ⟨rfl, _, rfl, _, _, rfl, rfl, _, rfl, ?_⟩
      by_cases c1 : z < 0
      · refine if_t (decide_eq_true c1) ?_
        have hp : decide (z < lst ls) = true := decide_eq_true (by unfold lst; split <;> omega)
        exact ⟨_, rfl, keepy hp⟩
      · refine if_f (decide_eq_false c1) ?_
        refine ⟨_, rfl, r, _, rfl, .inl (SqL.of g2), _, _, rfl, rfl, _, rfl, ?_⟩
        rw [List.length_map]
        by_cases c2 : (1 : Int) < (ls.length : Int)
        · refine if_t (decide_eq_true c2) ?_
          have el : lst ls = 2 := by unfold lst; rw [if_pos (by omega)]
          refine ⟨_, rfl, _, _, rfl, rfl, _, rfl, ?_⟩
          by_cases c3 : z ≤ 1
          · refine if_t (decide_eq_true c3) ⟨_, rfl, keepy (decide_eq_true (by omega))⟩
          · exact if_f (decide_eq_false c3) (dropy (decide_eq_false (by omega)))
        · refine if_f (decide_eq_false c2) ?_
          have el : lst ls = 0 := by unfold lst; rw [if_neg (by omega)]
          exact if_f rfl (dropy (decide_eq_false (by omega)))
    rintro H2 ⟨g1, g2⟩
    rw [List.length_map, List.take_length] at g1
    -- what is due
    refine ⟨by show 2 ≤ sizeLine; decide, fun t1 ht1 => ?_⟩
    have nr1 : r ≠ t1 := ne_of_none g2 ht1
    have nD1 : Dd ≠ t1 := ne_of_none g1 ht1
    refine ⟨fun σ' H' => ∃ t : Addr, σ' = [some (.ref a), some (.ref b), some (.ref r), v3, v4, v5, some (.ref Dd), some (.ref t), none] ∧ H' t = some (.tup [.str "length", .int (joinLen ls)]) ∧ H' r = some (.lst (ls.map V.int)) ∧ H' Dd = some (.lst ((ls.filter fun x => decide (x < lst ls)).map V.int)), ?_, ?_⟩
    · refine ⟨_, rfl, r, _, rfl, .inl (SqL.of (by rw [upd_ne nr1]; exact g2)), _, _, rfl, rfl, _, rfl, ?_⟩
      rw [List.length_map]
      by_cases c1 : (0 : Int) < (ls.length : Int)
      · refine if_t (decide_eq_true c1) ?_
        have hne : ls ≠ [] := fun z => by
          rw [z] at c1
          exact absurd c1 (by decide)
        refine ⟨_, rfl, r, ls, rfl, SqL.of (by rw [upd_ne nr1]; exact g2), _, rfl, r, _, rfl, .inl (SqL.of (by rw [upd_ne nr1]; exact g2)), _, _, rfl, rfl, _, _, rfl, rfl, by show 2 ≤ sizeLine; decide, fun t2 ht2 => ?_⟩
        have n12 : t1 ≠ t2 := fun z => by
          rw [z, upd_same] at ht2
          cases ht2
        have nr2 : r ≠ t2 := ne_of_none (show upd H2 t1 _ r = _ from (upd_ne nr1).trans g2) ht2
        have nD2 : Dd ≠ t2 := ne_of_none (show upd H2 t1 _ Dd = _ from (upd_ne nD1).trans g1) ht2
        refine ⟨t2, rfl, ?_, by rw [upd_ne nr2, upd_ne nr1]; exact g2, by rw [upd_ne nD2, upd_ne nD1]; exact g1⟩
        have e : joinLen ls = ls.sum - ((ls.map V.int).length : Int) + 1 := by
          unfold joinLen
          rw [if_neg hne, List.length_map]
          omega
        rw [upd_same, e]
      · refine if_f (decide_eq_false c1) ?_
        have hne : ls = [] := List.length_eq_zero_iff.mp (by omega)
        refine ⟨t1, rfl, ?_, by rw [upd_ne nr1]; exact g2, by rw [upd_ne nD1]; exact g1⟩
        have e : joinLen ls = 0 := by
          unfold joinLen
          rw [if_pos hne]
        rw [upd_same, e]
    rintro σ' H' ⟨t, rfl, j1, j2, j3⟩
    refine ⟨fun σ' H' => ∃ t : Addr, σ' = [some (.ref a), some (.ref b), some (.ref r), v3, v4, v5, some (.ref Dd), some (.ref t), none] ∧ H' t = some (.tup (told ls)) ∧ H' r = some (.lst (ls.map V.int)), ?_, ?_⟩
    · refine ⟨_, rfl, Dd, _, rfl, .inl (SqL.of j3), _, _, rfl, rfl, _, rfl, ?_⟩
      rw [List.length_map]
      by_cases c1 : (0 : Int) < ((ls.filter fun x => decide (x < lst ls)).length : Int)
      · refine if_t (decide_eq_true c1) ?_
        obtain ⟨v, rest, hv⟩ : ∃ v rest, (ls.filter fun x => decide (x < lst ls)) = v :: rest := by
          cases e : (ls.filter fun x => decide (x < lst ls)) with
          | nil =>
            rw [e] at c1
            exact absurd c1 (by decide)
          | cons v rest => exact ⟨v, rest, rfl⟩
        have ef : refused ls = some v := by
          unfold refused
          rw [← List.head?_filter, hv]
          rfl
        rw [hv] at j3
        refine ⟨_, rfl, Dd, _, _, V.int v, rfl, rfl, SqL.of j3, at_of (j := 0) rfl rfl, by show 2 ≤ sizeLine; decide, fun t2 ht2 => ?_⟩
        refine ⟨t2, rfl, ?_, by rw [upd_ne (ne_of_none j2 ht2)]; exact j2⟩
        rw [upd_same]
        unfold told
        rw [ef]
      · refine if_f (decide_eq_false c1) ?_
        have hv : (ls.filter fun x => decide (x < lst ls)) = [] := List.length_eq_zero_iff.mp (by omega)
        have ef : refused ls = none := by
          unfold refused
          rw [← List.head?_filter, hv]
          rfl
        refine ⟨t, rfl, ?_, j2⟩
        rw [j1]
        unfold told
        rw [ef]
    rintro σ' H' ⟨t, rfl, q1, q2⟩
    refine ⟨_, rfl, r, ls, rfl, q2, h6, sm, fun t' H9 ht' s9 e9 => ?_⟩
    have ex : (∃ n : Int, told ls = [.str "length", .int n]) ∨ ∃ n : Int, told ls = [.str "refused", .int n] := by
      unfold told
      cases refused ls with
      | none => exact .inl ⟨_, rfl⟩
      | some v => exact .inr ⟨_, rfl⟩
    rcases ex with ⟨n, ex⟩ | ⟨n, ex⟩
    all_goals
      rw [ex] at e9 q1
      refine ⟨_, rfl, t', _, _, _, rfl, rfl, SqT.of e9, rfl, n, rfl, true, rfl, if_t rfl ?_⟩
      refine ⟨_, rfl, _, rfl, _, _, .tup (SqT.of e9) (.cons (.str _) (.cons (.int _) .nil)), .tup (SqT.of (s9 _ _ q1)) (.cons (.str _) (.cons (.int _) .nil)), shaped_si (by decide +kernel), shaped_si (by decide +kernel), ?_⟩
      rw [SeqAt.eqv_refl _ (SeqAt.canLay_of_shaped (shaped_si (by decide +kernel)))]
      exact k _

end
end Law

namespace Law
open PySem PySem.Spec PyProof.Rows L2 Sup NdefX

theorem all_mk {P : Program} {w : World} {K : PySem.W.Frag} {h : Heap} {mg : Str → Option Value} {fa : Addr} (X : K.In h) (G : h.Ns mainGlobals mg) (hfa : mg "law" = some (.ref fa)) (htop : (P.main.scope.names.lookup ("super" : Str)).isSome = false)
    {fJ : Addr} {odJ anJ : Option Addr} {slJ : Array (Option Value)} {ocJ kVJ dcJ pmJ cdJ ctJ : Value}
    {fC : Addr} {odC anC : Option Addr} {slC : Array (Option Value)} {ocC kVC dcC pmC cdC ctC : Value}
    {fO : Addr} {odO anO : Option Addr} {slO : Array (Option Value)} {ocO kVO dcO pmO cdO ctO : Value}
    {fB : Addr} {odB anB : Option Addr} {slB : Array (Option Value)} {ocB kVB dcB pmB cdB ctB : Value}
    {fT : Addr} {odT anT : Option Addr} {slT : Array (Option Value)} {ocT kVT dcT pmT cdT ctT : Value}
    {fN : Addr} {odN anN : Option Addr} {slN : Array (Option Value)} {ocN kVN dcN pmN cdN ctN : Value}
    {fL : Addr} {odL anL : Option Addr} {slL : Array (Option Value)} {ocL kVL dcL pmL cdL ctL : Value}
    {CE BE fiE cdE ccE NE : Addr} {nmE qE : Str} {bsE : List Value} {snE : List Str} {subE : List Value} {abE : Bool} {colE : Option Bool} {ddE : Option Addr} {m0E m1E m2E m3E m5E : Option Value}
    {odE anE dkE deE : Option Addr} {slE skE seE : Array (Option Value)} {ocE kVE dcE pmE ctE ckE ceE : Value} {vkE : Array Value} {flE : Str} {tfE : Tok}
    {DL : Addr} {tkO : Tok}
    (aJ : PySem.W.nsIn K mainGlobals "joined_length" = some (some (.ref fJ)))
    (lJ : K.lookup fJ = some ⟨ocJ, odJ, .func (PySem.W.fnOf "joined_length" "joined_length" (defArgs sJoin) (defBody sJoin) (defScope sJoin) .none kVJ dcJ pmJ anJ cdJ ctJ), slJ⟩)
    (cJ : PySem.W.codeIn K cdJ "joined_length" = true)
    (kJ : PySem.W.keepIn K (.ref fJ) = true)
    (aC : PySem.W.nsIn K mainGlobals "_law_call" = some (some (.ref fC)))
    (lC : K.lookup fC = some ⟨ocC, odC, .func (PySem.W.fnOf "_law_call" "_law_call" (defArgs sCall) (defBody sCall) (defScope sCall) .none kVC dcC pmC anC cdC ctC), slC⟩)
    (cC : PySem.W.codeIn K cdC "_law_call" = true)
    (kC : PySem.W.keepIn K (.ref fC) = true)
    (aO : PySem.W.nsIn K mainGlobals "_law_outcome" = some (some (.ref fO)))
    (lO : K.lookup fO = some ⟨ocO, odO, .func (PySem.W.fnOf "_law_outcome" "_law_outcome" (defArgs sOut) (defBody sOut) (defScope sOut) .none kVO dcO pmO anO cdO ctO), slO⟩)
    (cO : PySem.W.codeIn K cdO "_law_outcome" = true)
    (kO : PySem.W.keepIn K (.ref fO) = true)
    (aB : PySem.W.nsIn K mainGlobals "_law_box" = some (some (.ref fB)))
    (lB : K.lookup fB = some ⟨ocB, odB, .func (PySem.W.fnOf "_law_box" "_law_box" (defArgs sBox) (defBody sBox) (defScope sBox) .none kVB dcB pmB anB cdB ctB), slB⟩)
    (cB : PySem.W.codeIn K cdB "_law_box" = true)
    (kB : PySem.W.keepIn K (.ref fB) = true)
    (aT : PySem.W.nsIn K mainGlobals "_law_take" = some (some (.ref fT)))
    (lT : K.lookup fT = some ⟨ocT, odT, .func (PySem.W.fnOf "_law_take" "_law_take" (defArgs sTake) (defBody sTake) (defScope sTake) .none kVT dcT pmT anT cdT ctT), slT⟩)
    (cT : PySem.W.codeIn K cdT "_law_take" = true)
    (kT : PySem.W.keepIn K (.ref fT) = true)
    (aN : PySem.W.nsIn K mainGlobals "_law_number" = some (some (.ref fN)))
    (lN : K.lookup fN = some ⟨ocN, odN, .func (PySem.W.fnOf "_law_number" "_law_number" (defArgs sNum) (defBody sNum) (defScope sNum) .none kVN dcN pmN anN cdN ctN), slN⟩)
    (cN : PySem.W.codeIn K cdN "_law_number" = true)
    (kN : PySem.W.keepIn K (.ref fN) = true)
    (aL : PySem.W.nsIn K mainGlobals "law" = some (some (.ref fL)))
    (lL : K.lookup fL = some ⟨ocL, odL, .func (PySem.W.fnOf "law" "law" (defArgs sLaw) (defBody sLaw) (defScope sLaw) .none kVL dcL pmL anL cdL ctL), slL⟩)
    (cL : PySem.W.codeIn K cdL "law" = true)
    (kL : PySem.W.keepIn K (.ref fL) = true)
    (opq : PySem.W.nsIn K cStatics "thirdparty.any" = some none)
    (nsup : PySem.W.nsIn K mainGlobals "super" = some none)
    (aE : PySem.W.nsIn K mainGlobals "BadNumber" = some (some (.ref CE)))
    (xE : K.lookup CE = some (excClassObj nmE qE CE NE bsE [.ref BE, .type "ValueError", .type "Exception", .type "BaseException", .type "object"] true snE subE abE colE ddE m0E m1E m2E m3E m5E "ValueError.__new__"))
    (saE : PySem.W.findIn K (.ref CE) "__setattr__" = some (some (.builtin "object.__setattr__")))
    (gaE : PySem.W.findIn K (.ref CE) "__getattribute__" = some (some (.builtin "BaseException.__getattribute__")))
    (ggE : PySem.W.findIn K (.ref CE) "__getattr__" = some none)
    (nbE : PySem.W.findIn K (.ref CE) "value" = some none)
    (iE : PySem.W.findIn K (.ref CE) "__init__" = some (some (.ref fiE)))
    (tE : PySem.W.typeIn K (.ref fiE) = some (.type "function"))
    (lE : K.lookup fiE = some ⟨ocE, odE, .func (PySem.W.fnX "__init__" "BadNumber.__init__" (defArgs sErr) (defBody sErr) (defScope sErr) [("__class__", ccE)] .none kVE dcE pmE anE (.ref cdE) ctE), slE⟩)
    (coE : PySem.W.codeIn K (.ref cdE) "BadNumber.__init__" = true)
    (lkE : K.lookup cdE = some ⟨ckE, dkE, .fields vkE, skE⟩)
    (vkEx : vkE[2]? = some (.str flE tfE))
    (feE : ((P.main.file : Str) == flE) = true)
    (leE : K.lookup ccE = some ⟨ceE, deE, .cell (some (.ref CE)), seE⟩)
    (mrE : PySem.W.mroIn K CE (.ref CE) = some true)
    (upE : PySem.W.ks_superIn K CE CE "__init__" = some (some (.builtin "ValueError.__init__")))
    (svE : PySem.W.subIn K (.ref CE) (.type "ValueError") = some true)
    (kcE : PySem.W.keepIn K (.ref CE) = true)
    (ebE : PySem.W.subIn K (.ref CE) (.type "BaseException") = some true)
    (tyE : PySem.W.typeIn K (.ref CE) = some (.type "type"))
    (hdE : PySem.W.hasDictIn K CE = true)
    (ssE : PySem.W.subIn K (.ref CE) (.ref CE) = some true)
    (n_len : PySem.W.nsIn K mainGlobals "len" = some none)
    (n_int : PySem.W.nsIn K mainGlobals "int" = some none)
    (n_isinstance : PySem.W.nsIn K mainGlobals "isinstance" = some none)
    (n_bool : PySem.W.nsIn K mainGlobals "bool" = some none)
    (n_range : PySem.W.nsIn K mainGlobals "range" = some none)
    (n_sum : PySem.W.nsIn K mainGlobals "sum" = some none)
    (aDL : PySem.W.nsIn K mainGlobals "Ladder" = some (some (.ref DL)))
    (rdD : PySem.W.readsIn K DL (.type "type") = true)
    (gaD : PySem.W.specialIn K (.ref DL) "__getattribute__" = some (some (.builtin "type.__getattribute__")))
    (ovD : PySem.W.findCls K (.ref DL) (.type "type") "OVERLAP" = some (.val (.int 1 tkO))) :
    ∃ fd : FuncData, (∀ (s : Shared) (v : Value), BindsTo s fd ⟨[v], []⟩ [("_law_script", v)]) ∧ ∀ base : Heap, K.In base → base.Ns mainGlobals mg → FnOk P w K mg base CX0 7 fa fd ["_law_script"] (spLaw K) := by
  have e := hfa.symm.trans (PySem.W.mg_of X G aL)
  cases e
  have FJ := fun_mk (st := sJoin) lJ cJ kJ
  have bJ := trivial
  have FC := fun_mk (st := sCall) lC cC kC
  have bC := FC.binds (ps := ["_law_row"]) fun _ _ _ _ _ _ us hl => match us, hl with | [_], _ => rfl
  have FO := fun_mk (st := sOut) lO cO kO
  have bO := FO.binds (ps := ["_law_row"]) fun _ _ _ _ _ _ us hl => match us, hl with | [_], _ => rfl
  have FB := fun_mk (st := sBox) lB cB kB
  have bB := FB.binds (ps := ["_law_script"]) fun _ _ _ _ _ _ us hl => match us, hl with | [_], _ => rfl
  have FT := fun_mk (st := sTake) lT cT kT
  have bT := FT.binds (ps := ["_law_box_here", "_law_size"]) fun _ _ _ _ _ _ us hl => match us, hl with | [_, _], _ => rfl
  have FN := fun_mk (st := sNum) lN cN kN
  have bN := FN.binds (ps := ["_law_x"]) fun _ _ _ _ _ _ us hl => match us, hl with | [_], _ => rfl
  have FL := fun_mk (st := sLaw) lL cL kL
  have bL := FL.binds (ps := ["_law_script"]) fun _ _ _ _ _ _ us hl => match us, hl with | [_], _ => rfl
  have OE : OexC K CE := ⟨⟨nmE, qE, NE, bsE, _, snE, subE, abE, colE, ddE, m0E, m1E, m2E, m3E, m5E, xE, by rfl⟩, saE, ebE, tyE, kcE⟩
  have TE : ErrTxt P K mg CE fiE cdE ccE "BadNumber.__init__" sErr := {
    oex := OE
    iC := iE
    tI := tE
    fn := ⟨_, _, _, _, _, _, _, _, lE⟩
    code := coE
    file := ⟨_, vkE, flE, tfE, lkE, rfl, vkEx, feE⟩
    cell := ⟨_, leE, rfl⟩
    self := mrE
    opaque_ := opq
    up := upE
    isVE := svE
    top := htop
    noSup := PySem.W.mg_none_of X G nsup }
  have RE : ∀ base, ErrOk P w K mg base "BadNumber" CE "value" okInt := fun base => by
    obtain ⟨fd, hfd, hb⟩ := err_int (w := w) (base := base) TE rfl rfl (nscope_by (by decide +kernel)) (fun _ _ _ _ _ _ _ us hl => match us, hl with | [_, _], _ => rfl) rfl rfl rfl (by decide) (by decide) (by decide) nbE
    exact ⟨OE, ⟨gaE, ggE, ebE, hdE⟩, PySem.W.mg_of X G aE, nbE, PySem.W.exm_ref ebE hdE tyE ssE, ⟨_, fd, iE, tE, hfd, hb⟩⟩
  exact ⟨PySem.W.fnOf "law" "law" (defArgs sLaw) (defBody sLaw) (defScope sLaw) .none kVL dcL pmL anL cdL ctL, fun s v => .of_eq rfl, fun base _ _ => ok_law FL (RE base) { join := PySem.W.mg_of X G aJ, call := PySem.W.mg_of X G aC, out := PySem.W.mg_of X G aO, box := PySem.W.mg_of X G aB, take := PySem.W.mg_of X G aT, num := PySem.W.mg_of X G aN, b_range := PySem.W.mg_none_of X G n_range, b_len := PySem.W.mg_none_of X G n_len, b_sum := PySem.W.mg_none_of X G n_sum, bt := ⟨PySem.W.mg_none_of X G n_len, PySem.W.mg_none_of X G n_int⟩, nt := ⟨PySem.W.mg_none_of X G n_isinstance, PySem.W.mg_none_of X G n_int, PySem.W.mg_none_of X G n_bool⟩ }
      (D := DL) (mc := .type "type") (u := .int 1 tkO) { g := PySem.W.mg_of X G aDL, cr := ⟨rdD, gaD⟩, cv := ⟨ovD, ⟨_, rfl⟩⟩, len := PySem.W.mg_none_of X G n_len, sum := PySem.W.mg_none_of X G n_sum }
      FJ (fun rest => by cases rest <;> rfl) FC bC FO bO FB bB FT bT FN bN⟩
theorem walk {l : PySem.W.OpenLaw} {q : Program} {loose : List Str} {XP : (Str → Option Value) → Heap → Prop} {YP : World → Heap → Prop} {d : DefRec} {K : Params → PySem.W.Frag} (hn : l.most = some 63) (hdf : d.params.defaults = [])
    (hY : ∀ (w : World) (h : Heap), YP w h → (K w.params).In h)
    (F : ∀ (w : World) (mg : Str → Option Value) (fa : Addr) (h : Heap), (K w.params).In h → h.Ns mainGlobals mg → mg d.name = some (.ref fa) →
      ∃ fd : FuncData, (∀ (s : Shared) (u : Value), BindsTo s fd ⟨[u], []⟩ [("_law_script", u)]) ∧ ∀ base : Heap, (K w.params).In base → base.Ns mainGlobals mg → FnOk l.prog w (K w.params) mg base CX0 7 fa fd ["_law_script"] (spLaw (K w.params))) :
    PySem.W.WalkO q loose XP YP l.row.toRowW d [] (fun f vs => PySem.call f vs) :=
  L2.walk_of (n := 63) (k := 7) (x := "_law_script") (CX := fun _ => CX0) (sp := fun w => spLaw (K w.params)) hn (by decide) hdf ⟨rfl, by decide, by decide⟩ hY F (fun _ _ a ns hl _ hS => ⟨a, ns, rfl, hS, hl, fun _ => rfl⟩) fun _ _ _ _ _ z => z
end Law

open PySem PySem.W PyProof.Rows
set_option maxRecDepth 100000 in
set_option maxHeartbeats 0 in
theorem PySem.Challenge.cw_rungbounds_k03_length_of_a_join_holds : PySem.Challenge.rw_rungbounds_k03_length_of_a_join.Holds := by
  w_on; o_law; k_head; (case hw => w_witness2)
  k_fill
  refine Law.walk (l := PySem.Challenge.rw_rungbounds_k03_length_of_a_join) rfl rfl (fun w h Y => PySem.W.kIn_of Y) ?F
  case F =>
    intro w mg fa h KX G hmg
    refine' Law.all_mk KX G hmg (by rfl) ?aJ ?lJ ?cJ ?kJ ?aC ?lC ?cC ?kC ?aO ?lO ?cO ?kO ?aB ?lB ?cB ?kB ?aT ?lT ?cT ?kT ?aN ?lN ?cN ?kN ?aL ?lL ?cL ?kL ?opq ?nsup ?aE ?xE ?saE ?gaE ?ggE ?nbE ?iE ?tE ?lE ?coE ?lkE ?vkEx ?feE ?leE ?mrE ?upE ?svE ?kcE ?ebE ?tyE ?hdE ?ssE ?n_len ?n_int ?n_isinstance ?n_bool ?n_range ?n_sum ?aDL ?rdD ?gaD ?ovD
    (case aJ => k_is)
    (case lJ => k_is)
    (case cJ => k_is)
    (case kJ => k_is)
    (case aC => k_is)
    (case lC => k_is)
    (case cC => k_is)
    (case kC => k_is)
    (case aO => k_is)
    (case lO => k_is)
    (case cO => k_is)
    (case kO => k_is)
    (case aB => k_is)
    (case lB => k_is)
    (case cB => k_is)
    (case kB => k_is)
    (case aT => k_is)
    (case lT => k_is)
    (case cT => k_is)
    (case kT => k_is)
    (case aN => k_is)
    (case lN => k_is)
    (case cN => k_is)
    (case kN => k_is)
    (case aL => k_is)
    (case lL => k_is)
    (case cL => k_is)
    (case kL => k_is)
    (case opq => k_is)
    (case nsup => k_is)
    (case aE => k_is)
    (case xE => k_is)
    (case saE => k_is)
    (case gaE => k_is)
    (case ggE => k_is)
    (case nbE => k_is)
    (case iE => k_is)
    (case tE => k_is)
    (case lE => k_is)
    (case coE => k_is)
    (case lkE => k_is)
    (case vkEx => rfl)
    (case feE => decide +kernel)
    (case leE => k_is)
    (case mrE => k_is)
    (case upE => first | ks_is | rfl)
    (case svE => k_is)
    (case kcE => k_is)
    (case ebE => k_is)
    (case tyE => k_is)
    (case hdE => k_is)
    (case ssE => first | rfl | k_is)
    (case n_len => k_is)
    (case n_int => k_is)
    (case n_isinstance => k_is)
    (case n_bool => k_is)
    (case n_range => k_is)
    (case n_sum => k_is)
    (case aDL => k_is)
    (case rdD => k_is)
    (case gaD => k_is)
    (case ovD => k_is)
