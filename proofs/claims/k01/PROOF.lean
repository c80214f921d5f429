import PyProof.Rows.All
import Wide.All
import OpenK.AllK
import Wide.FinOn
import HandS.ForMost
import HandS.Wide
import HandS.ExcInit
import HandS.FStr
import HandS.Nested
import HandS.TryOnly
import HandS.ExcField
import HandS.WordsExc
import HandS.IsInst
import HandS.Codes
import HandS.Gcd
import HandS.Defaults
import HandS.ExcIs
import KE.KExcSuper
import KE.KMathG
import PySem.Challenge.RW_rungbounds_k01_reach_of_a_ladder
set_option Elab.async false
set_option linter.all false
set_option maxRecDepth 100000
set_option maxHeartbeats 4000000
/-! Errors whose making calls super().__init__ on a text, then keeps a field. -/
namespace Sup
open PySem PySem.Spec PyProof.Rows L2 NdefX

abbrev mwrap (x : Addr) : Obj := PySem.W.kxs_mw "ValueError.__init__" x

/-- the wrapper of ValueError.__init__ bound to a, called -/
theorem call_wrap {prog : Program} {w : World} {A : Around} {E : Value → Shared → Prop} {h : Heap} {g : Array GenState} {d : Drawn} {t : Nat} {os : OsState}
    {nm q : Str} {C N : Addr} {bs bm : List Value} {hd : Bool} {sn : List Str} {sub : List Value} {ab : Bool} {col : Option Bool} {dd : Option Addr} {k0 k1 k2 k3 k5 : Option Value}
    {u a t0 : Addr} {us : List Value} {Q : Value → Shared → Prop}
    (hC : h.get? C = some (excClassObj nm q C N bs bm hd sn sub ab col dd k0 k1 k2 k3 k5 "ValueError.__new__"))
    (ha : h.get? a = some (PySem.HandSPX.excO C t0)) (hu : h.get? u = some (mwrap a)) (hl : us.length ≤ sizeLine)
    (hq : ∀ h' t1, (∀ b o, b ≠ a → h.get? b = some o → h'.get? b = some o) → h'.get? a = some (PySem.HandSPX.excO C t1) → Q .none ⟨h', g, d, t, os⟩) :
    wpAny (model prog w) A (call (.ref u) us) Q E ⟨h, g, d, t, os⟩ := by
  have FB := F.excBase_ValueError
  refine wpAny_call (codeAny_of_tree ?_)
  show wpAny _ A.in1 (callAny (.ref u) ⟨us, []⟩) _ _ _
  unfold callAny
  refine wpAny_bind (wpAny_load hu ?_)
  have k1' : (Value.type "method-wrapper" == Value.type "method" || Value.type "method-wrapper" == Value.type "builtin_function_or_method" || Value.type "method-wrapper" == Value.type "method-wrapper") = true := by decide
  simp only [mwrap, PySem.W.kxs_mw, k1', if_true]
  refine PySem.W.KFB.if_so (by decide) ?_
  refine wpAny_bind (PySem.W.check_bound_init FB.toExcCallFacts hC ha rfl ?_)
  refine wpAny_bind (wpAny_pure (wpAny_pure ?_))
  refine ⟨plainId_quiet FB.init.plain _, codeAny_builtin FB.initEntry ?_⟩
  exact PySem.W.exc_init_tree (cls := .ref C) (t0 := t0) (dv := none) (c2 := .none) (c3 := .none) (b4 := .bool false) ha hl fun h' k e _ => hq h' _ k e

/-- what the written part says of an own error's class at C and its __init__ at f -/
structure ErrTxt (P : Program) (K : PySem.W.Frag) (mg : Str → Option Value) (C f cda cc : Addr) (qual : Str) (st : Stmt) : Prop where
  oex : OexC K C
  iC : PySem.W.findIn K (.ref C) "__init__" = some (some (.ref f))
  tI : PySem.W.typeIn K (.ref f) = some (.type "function")
  fn : ∃ (oc : Value) (od an : Option Addr) (kV doc pm ct : Value) (osl : Array (Option Value)),
    K.lookup f = some ⟨oc, od, .func (PySem.W.fnX "__init__" qual (defArgs st) (defBody st) (defScope st) [("__class__", cc)] .none kV doc pm an (.ref cda) ct), osl⟩
  code : PySem.W.codeIn K (.ref cda) qual = true
  file : ∃ (o : Obj) (vs : Array Value) (fl : Str) (tf : Tok), K.lookup cda = some o ∧ o.data = .fields vs ∧ vs[2]? = some (.str fl tf) ∧ ((P.main.file : Str) == fl) = true
  cell : ∃ (o : Obj), K.lookup cc = some o ∧ o.data = .cell (some (.ref C))
  self : PySem.W.mroIn K C (.ref C) = some true
  opaque_ : PySem.W.nsIn K cStatics "thirdparty.any" = some none
  up : PySem.W.ks_superIn K C C "__init__" = some (some (.builtin "ValueError.__init__"))
  isVE : PySem.W.subIn K (.ref C) (.type "ValueError") = some true
  top : (P.main.scope.names.lookup ("super" : Str)).isSome = false
  noSup : mg "super" = none

section
variable {X : Cx} {pins : List (Addr × Obj)} {σ : L2.St} {H : Hp} {s : Shared} {a C f cda cc : Addr} {qual : Str} {st : Stmt} {e : Expr} {te : TE} {body : List Stmt} {p0 p1 p2 p3 : Pos} {Q : Hp → Prop} {scope : Scope} {ar : Arg}
theorem super_init (T : ErrTxt X.prog X.K X.mg C f cda cc qual st) (I : Inv X pins σ H s)
    (henv : X.env = PySem.W.envX qual scope X.env.locals f (.ref cda) [("__class__", cc)])
    (hks : scope.names.lookup ("super" : Str) = some .globalImplicit) (hkc : scope.names.lookup ("__class__" : Str) = some .free)
    (hks' : scope.names.lookup ar.arg = some .local)
    (har : ((defArgs st).posonlyargs ++ (defArgs st).args).head? = some ar)
    (h0 : X.N[0]? = some ar.arg) (hs0 : σ[0]? = some (some (V.ref a))) (ha : H a = some (exo a C none))
    (he : PE X e te) (hq : te σ H fun x H1 => [x].length ≤ 1 ∧ H1 a = some (exo a C none) ∧ Q H1) {pl : Sem Bool}
    (hform : eval (.Call (.Attribute (.Call (.Name "super" p0) [] [] p1) "__init__" p2) [e] [] p3) X.env = (do
      let ov ← attributeBase (.Call (.Name "super" p0) [] [] p1) "__init__" X.env (eval (.Call (.Name "super" p0) [] [] p1) X.env)
      standAt p2.atName
      let (g, first) ← holding [ov] (getMethod ov "__init__" pl)
      callWith p3 g first (backTo p3 (starEach [e] X.env)) []) := by rfl)
    (hse : starEach [e] X.env = (false, eval e X.env) :: starEach [] X.env := by rfl) :
    _root_.PySem.wpAt (model X.prog X.w) X.A (.func body X.env) (eval (.Call (.Attribute (.Call (.Name "super" p0) [] [] p1) "__init__" p2) [e] [] p3) X.env)
      (fun _ s' => ∃ H', Inv X pins σ H' s' ∧ Q H') X.xe s := by
  have kS : X.env.kindOf "super" = some .globalImplicit := by rw [henv]; exact hks
  have kC : X.env.kindOf "__class__" = some .free := by rw [henv]; exact hkc
  have kA : X.env.kindOf ar.arg = some .local := by rw [henv]; exact hks'
  have cL : X.env.cells.lookup ("__class__" : Str) = some cc := by rw [henv]; rfl
  have fL : X.env.func = some f := by rw [henv]
  have dL : X.env.code = .ref cda := by rw [henv]
  obtain ⟨nm, q, N, bs, bm, sn, sub, ab, col, dd, k0, k1, k2, k3, k5, hC, hbm⟩ := T.oex.cls
  have hcl : PySem.W.clsIn X.K C = some { name := nm, bases := bs, mro := .ref C :: bm, ns := N, qualname := q, hasDict := true, slotNames := sn, subclasses := sub, abstract := ab, collection := col, hasDel := false } := by
    unfold PySem.W.clsIn; rw [hC] <;> rfl
  obtain ⟨oc, od, an, kV, doc, pm, ct, osl, lf⟩ := T.fn
  obtain ⟨oF, vs, fl, tf, lc, hvf, hv2, hfl⟩ := T.file
  obtain ⟨oc2, lcell, dcell⟩ := T.cell
  obtain ⟨t1, hga⟩ := exo_at I.hok ha
  refine ks_wpAt_MethodCall (o := .Call (.Name "super" p0) [] [] p1) (name := "__init__") (apos := p2) (pos := p3) (args := [e]) (env := X.env) ?_ hform
  refine ks_wpAt_super_base (env := X.env) (cc := cda) (ar := ar) kS kC (by decide) fL (I.kIn _ _ lf) rfl har dL (I.kIn _ _ lc) hvf hv2 hfl T.top ?_
  -- the name super
  obtain ⟨mb, hb1, hb2⟩ := I.mod.blt
  refine PySem.W.ks_loadName_global I.ok.kind kS (Calls.loadGlobal_builtin (v := .type "super") (by rw [I.ok.glob]; exact I.mod.glob.keeps I.bk) T.noSup
    (by rw [I.ok.blt]; exact hb1.keeps I.bk) ((hb2 _ (by decide)).trans (by decide +kernel)) ⟨rfl, ?_⟩)
  -- the cell __class__
  refine wpAny_loadName_free I.ok.kind kC cL (v := .ref C) ⟨_, I.kIn _ _ lcell, dcell⟩ ?_
  -- self
  obtain ⟨m, hn, hlm⟩ := I.loc
  obtain ⟨u, ru, hlook⟩ := hlm 0 ar.arg (V.ref a) h0 hs0 (.inl (by rw [henv]; exact hks'))
  obtain rfl : u = Value.ref a := ru
  have hma : m ar.arg = some (Value.ref a) := by
    rcases hlook with ⟨_, z⟩ | ⟨z, _⟩
    · exact z
    · rw [kA] at z
      rcases z with z | z <;> cases z
  refine wpAny_loadName_local I.ok.kind kA hn hma ?_
  have gC := I.kIn _ _ hC
  refine ks_wpAny_isType_cls gC rfl ⟨rfl, ?_⟩
  obtain ⟨hp, g, d, t, os⟩ := s
  refine ks_wpAny_call_super gC rfl hga rfl (fun c z => by cases z) (PySem.W.looks_mroIn I.kIn T.self) fun h1 e1 k1 => ?_
  have J1 : Inv X pins σ H ⟨h1, g, d, t, os⟩ := I.kept (t' := t) k1
  have I1 : PySem.W.InstAt h1 a (PySem.HandSPX.excO C t1) C none := ⟨k1 _ _ hga, rfl, rfl, trivial⟩
  have hup := T.up
  unfold PySem.W.ks_superIn at hup
  rw [hcl] at hup
  refine PySem.W.kxs_getMethod PySem.W.kxs_ValueError e1 (PySem.W.looks_opaque J1.kIn T.opaque_)
    (fun A' Q' E' s' k q => wpAny_bind ((PySem.W.looks_clsIn J1.kIn hcl) A' _ E' s' k (wpAny_pure q))) rfl J1.kIn hup
    (I1.type.andThen (PySem.W.looks_subIn J1.kIn T.isVE)) (PySem.W.ks_ne J1.kIn I1 hcl) (by decide) ?_
  have gu : (h1.push (mwrap a)).get? h1.objs.size = some (mwrap a) := Heap.get?_push_at rfl rfl
  have J2 : Inv X pins σ H ⟨h1.push (mwrap a), g, d, t + 1, os⟩ := J1.kept (t' := t + 1) fun b o z => Heap.get?_push_of_some _ z
  have J3 : Inv X ((h1.objs.size, mwrap a) :: pins) σ H ⟨h1.push (mwrap a), g, d, t + 1, os⟩ := J2.pins_of fun p hp => by
    rcases List.mem_cons.mp hp with rfl | hp
    · refine ⟨gu, J1.hok.fresh (Nat.le_refl _), fun z => ?_, J1.nofs (Nat.le_refl _), fun v z => by cases z⟩
      have z' : h1.objs.size = X.env.locals := z
      have y := J1.lt
      rw [← z'] at y
      exact absurd y (Nat.lt_irrefl _)
    · exact J2.pin p (List.mem_append_right _ hp)
  show wpAny _ _ (callWith p3 (.ref h1.objs.size) [] (backTo p3 (starEach [e] X.env)) []) _ _ _
  have hq' : tCons te tNil σ H fun xs H1 => xs.length ≤ 1 ∧ H1 a = some (exo a C none) ∧ Q H1 := hq
  rw [hse]
  refine PySem.W.kxs_callWith (i := "ValueError.__init__") (x := a) (by rfl) ?_
  refine Calls.evalArgs_plain ?_
  have pr := (pa_cons he pa_nil hse).run p3 _ _ σ H _ J3 hq'
  rw [hse] at pr
  refine thn pr fun us s2 hh => ?_
  obtain ⟨xs, H2, I2, r2, hx1, ha2, hQ2⟩ := hh
  have gw := (I2.pin (h1.objs.size, mwrap a) (List.mem_append_right _ List.mem_cons_self)).1
  refine ⟨gw, ?_⟩
  obtain ⟨t2, hga2⟩ := exo_at I2.hok ha2
  obtain ⟨hp2, g2, d2, tk2, os2⟩ := s2
  have hul : us.length ≤ sizeLine := by
    rw [← r2.length, sizeLine_eq]
    omega
  refine call_wrap (us := us) (I2.kIn _ _ hC) hga2 gw hul fun h3 t3 k3' e3 => ?_
  have J4 := I2.write (t' := tk2) (x := a) (e := a) (o := exo a C none) (by rw [ha2]; exact True.intro) (.inl rfl) k3' ⟨_, e3⟩ (exo_ok e3)
  have eu : upd H2 a (exo a C none) = H2 := by
    funext b
    by_cases hb : b = a
    · rw [hb, upd_same, ha2]
    · exact upd_ne hb
  rw [eu] at J4
  exact ⟨H2, J4.pins_of fun p hp => J4.pin p (List.mem_append_right _ (List.mem_cons_of_mem _ hp)), hQ2⟩
end

/-! ### the making of an own error, as a promise -/
/-- at a an exception of the class at C is being made; the argument v goes to the field fl -/
def spErr (C : Addr) (fl : Str) (ok : V → Prop) : Sp := fun vs H Q _ => ∃ (a : Addr) (v : V), vs = [.ref a, v] ∧ H a = some (exo a C none) ∧ ok v ∧
  ∀ dx, H dx = none → dx ≠ a → Q .non (upd (upd H dx (exd dx [(fl, v)])) a (exo a C (some dx)))

def okInt : V → Prop := fun v => ∃ i : Int, v = .int i ∧ i.natAbs.log2 < 1920
def okTxt : V → Prop := fun v => ∃ y : Str, v = .str y ∧ (reprText y).length ≤ 10000

section
variable {P : Program} {w : World} {K : PySem.W.Frag} {mg : Str → Option Value} {base : Heap} {C f cda cc : Addr} {qual pn : Str} {st : Stmt} {N : List Str}

abbrev supNF (qual : Str) (st : Stmt) (cda cc : Addr) : NF := ⟨"__init__", qual, defArgs st, defBody st, defScope st, [("__class__", cc)], cda⟩

/-- a def that closes over __class__ alone, entered: its body runs in the frame of NdefX -/
theorem sup_fn {CX : CXT} {sp : Sp} {k : Nat} {ps : List Str} (T : ErrTxt P K mg C f cda cc qual st) (S : NScope N ps ["__class__"] (defScope st))
    (len : ∀ vs H Q E, sp vs H Q E → vs.length = ps.length)
    (hb : ∀ (oc : Value) (od an : Option Addr) (kV doc pm ct : Value) (us : List Value), us.length = ps.length →
      bindArgs (PySem.W.fnX "__init__" qual (defArgs st) (defBody st) (defScope st) [("__class__", cc)] .none kV doc pm an (.ref cda) ct) ⟨us, []⟩ = pure (ps.zip us))
    (hbody : ∀ (A : Around) (outer : List Env) (s : Shared) (H : Hp) (vs : List V) (Q : VK) (E : XK), sp vs H Q E →
      ∀ s1, L2.Inv (ncx CX P w K mg base N (supNF qual st cda cc) f A outer s H E) [] (startF N vs [none]) H s1 →
        _root_.PySem.wpAt (model P w) (ncx CX P w K mg base N (supNF qual st cda cc) f A outer s H E).A (.func (defBody st) (ncx CX P w K mg base N (supNF qual st cda cc) f A outer s H E).env)
          (execs (defBody st) (ncx CX P w K mg base N (supNF qual st cda cc) f A outer s H E).env)
          (SP (ncx CX P w K mg base N (supNF qual st cda cc) f A outer s H E) [] { nx := fun _ H' => Q .non H', rt := Q })
          (ncx CX P w K mg base N (supNF qual st cda cc) f A outer s H E).xe s1) :
    ∃ fd, FnOk P w K mg base CX (k + 1) f fd ps sp ∧ Binds K fd ps [] := by
  obtain ⟨oc, od, an, kV, doc, pm, ct, osl, lf⟩ := T.fn
  obtain ⟨oc2, lcell, dcell⟩ := T.cell
  refine ⟨_, ⟨len, fun A outer s H args us vs Q E hr e0 hbd r hsp => ?_⟩, Binds.all (hb oc od an kV doc pm ct)⟩
  have hl := len _ _ _ _ hsp
  have KX : K.In s.heap := e0.mod.kin.keeps fun b o e => (e0.bs b o e).1
  have lim : s.heap.NoLimit := e0.mod.nolimit.keeps fun b o e => (e0.bs b o e).1
  have hH : H cc = none := (e0.bs cc oc2 (e0.mod.kin _ _ lcell)).2
  have CA : CellsAt [("__class__", cc)] ["__class__"] [none] s.heap H := {
    len := rfl
    all := fun y c h => by
      have h' : (if y = ("__class__" : Str) then some cc else none) = some c := by
        by_cases e : y = ("__class__" : Str)
        · subst e; exact h
        · have q : (y == ("__class__" : Str)) = false := by simpa using e
          have z : List.lookup y [(("__class__" : Str), cc)] = none := by simp [List.lookup, q]
          rw [z] at h; cases h
      split at h'
      · cases h'
        exact ⟨hH, some (.ref C), oc2, KX _ _ lcell, dcell⟩
      · cases h'
    inj := fun x y c h1 h2 => by
      have key : ∀ z : Str, List.lookup z [(("__class__" : Str), cc)] = some c → z = "__class__" := fun z hz => by
        by_cases e : z = ("__class__" : Str)
        · exact e
        · have q : (z == ("__class__" : Str)) = false := by simpa using e
          have w : List.lookup z [(("__class__" : Str), cc)] = none := by simp [List.lookup, q]
          rw [w] at hz; cases hz
      exact (key x h1).trans (key y h2).symm
    has := fun i y h => by
      match i, h with
      | 0, h =>
        have e : ("__class__" : Str) = y := Option.some.inj h
        subst e
        exact ⟨cc, by simp [List.lookup], fun v z => by cases z⟩
      | i + 1, h => cases h }
  refine ks_codeAny_call_defAt (binds := ps.zip us) hr.depth (KX _ _ lf) rfl lim (PySem.W.codeRec_of KX T.code) rfl hbd S.nocell (fun ⟨n, _⟩ hy => S.par n (List.of_mem_zip hy).1) (fun h1 hns kp => ?_) S.co S.gen S.kind
  have I : L2.Inv (ncx CX P w K mg base N (supNF qual st cda cc) f A outer s H E) [] (startF N vs [none]) H { s with heap := h1, toks := s.toks + (ps.zip us).length } :=
    inv_startN S hr.hd e0 hl r CA hns kp
  refine _root_.PySem.wpAt_mono (hbody A outer s H vs Q E hsp _ I) (fun fl s' hs => ?_) fun e s' hs => hs
  cases fl with
  | ret u =>
    obtain ⟨v, σ', H', J, rv, q⟩ := hs
    exact ⟨v, H', J.os, J.bare, J.base, J.hok, rv, q⟩
  | next =>
    obtain ⟨σ', H', J, q⟩ := hs
    exact ⟨V.non, H', J.os, J.bare, J.base, J.hok, rfl, q⟩
  | brk =>
    obtain ⟨_, _, _, q⟩ := hs
    exact False.elim q
  | cont =>
    obtain ⟨_, _, _, q⟩ := hs
    exact False.elim q
end

section
variable {P : Program} {w : World} {K : PySem.W.Frag} {mg : Str → Option Value} {base : Heap} {C f cda cc : Addr} {qual pn : Str} {st : Stmt} {N : List Str}

/-- the body: super().__init__(e), then one statement more -/
theorem two_run {X : Cx} {σ : L2.St} {H : Hp} {s : Shared} {a : Addr} {e : Expr} {te : TE} {t2 : TS} {st2 : Stmt} {body : List Stmt} {p0 p1 p2 p3 p4 : Pos} {scope : Scope} {ar : Arg} {D : Ends}
    (T : ErrTxt X.prog X.K X.mg C f cda cc qual st) (I : L2.Inv X [] σ H s)
    (henv : X.env = PySem.W.envX qual scope X.env.locals f (.ref cda) [("__class__", cc)])
    (hks : scope.names.lookup ("super" : Str) = some .globalImplicit) (hkc : scope.names.lookup ("__class__" : Str) = some .free)
    (hka : scope.names.lookup ar.arg = some .local)
    (har : ((defArgs st).posonlyargs ++ (defArgs st).args).head? = some ar)
    (h0 : X.N[0]? = some ar.arg) (hs0 : σ[0]? = some (some (V.ref a))) (ha : H a = some (exo a C none))
    (he : PE X e te) (h2 : PS X st2 t2) (hq : te σ H fun x H1 => [x].length ≤ 1 ∧ H1 a = some (exo a C none) ∧ t2 D σ H1) {pl : Sem Bool}
    (hform : eval (.Call (.Attribute (.Call (.Name "super" p0) [] [] p1) "__init__" p2) [e] [] p3) X.env = (do
      let ov ← attributeBase (.Call (.Name "super" p0) [] [] p1) "__init__" X.env (eval (.Call (.Name "super" p0) [] [] p1) X.env)
      standAt p2.atName
      let (g, first) ← holding [ov] (getMethod ov "__init__" pl)
      callWith p3 g first (backTo p3 (starEach [e] X.env)) []) := by rfl)
    (hse : starEach [e] X.env = (false, eval e X.env) :: starEach [] X.env := by rfl) (hi : interactive X.env = false := by rfl) :
    _root_.PySem.wpAt (model X.prog X.w) X.A (.func body X.env)
      (execs [.Expr (.Call (.Attribute (.Call (.Name "super" p0) [] [] p1) "__init__" p2) [e] [] p3) p4, st2] X.env) (SP X [] D) X.xe s := by
  refine ks_wpAt_execs_cons (ks_wpAt_Expr_any ?_ hi)
  refine _root_.PySem.wpAt_mono (super_init (Q := fun H1 => t2 D σ H1) T I henv hks hkc hka har h0 hs0 ha he hq hform hse) (fun v s' hh => ?_) fun _ _ z => z
  obtain ⟨H1, I1, q⟩ := hh
  exact _root_.PySem.wpAt_of_wpAny ((pss_one h2).run [] s' σ H1 D I1 q)

theorem form_of (env : Env) {p0 p1 p2 p3 q4 : Pos} {ps : List Expr} (hln : (p2.endLine == p3.line) = true) : eval (.Call (.Attribute (.Call (.Name "super" p0) [] [] p1) "__init__" p2) [.JoinedStr ps q4] [] p3) env = (do
      let ov ← attributeBase (.Call (.Name "super" p0) [] [] p1) "__init__" env (eval (.Call (.Name "super" p0) [] [] p1) env)
      standAt p2.atName
      let (g, first) ← holding [ov] (getMethod ov "__init__" (do return (← importBound (.Call (.Name "super" p0) [] [] p1) env).getD true))
      callWith p3 g first (backTo p3 (starEach [.JoinedStr ps q4] env)) []) := by
  have hp : methodCallPos true (.Call (.Name "super" p0) [] [] p1) env p2 p3 = pure p3 := by
    unfold methodCallPos
    rw [hln]
    rfl
  show (do
    let ov ← attributeBase (.Call (.Name "super" p0) [] [] p1) "__init__" env (eval (.Call (.Name "super" p0) [] [] p1) env)
    standAt p2.atName
    let (g, first) ← holding [ov] (getMethod ov "__init__" (do return (← importBound (.Call (.Name "super" p0) [] [] p1) env).getD true))
    let cp ← methodCallPos true (.Call (.Name "super" p0) [] [] p1) env p2 p3
    callWith cp g first (backTo p3 (starEach [.JoinedStr ps q4] env)) []) = _
  rw [hp]
  rfl
theorem lit_small {lit : Str} (hl : lit.length ≤ 1000) : (Str.empty ++ lit).length ≤ 1000 := by
  rw [Str.length_append]
  exact Nat.le_trans (Nat.le_of_eq (Nat.zero_add _)) hl
theorem err_int {lit : Str} {j : Nat} {q1 q2 q3 q4 p0 p1 p2 p3 p4 r1 r2 r3 r4 : Pos} {ar : Arg} (T : ErrTxt P K mg C f cda cc qual st)
    (hbd : defBody st = [.Expr (.Call (.Attribute (.Call (.Name "super" p0) [] [] p1) "__init__" p2) [.JoinedStr [.Constant (.str lit) j q1, .FormattedValue (.Name pn q2) (-1) none q3] q4] [] p3) p4,
      .Assign [.Attribute (.Name "self" r1) pn r2] (.Name pn r3) r4]) (hln : (p2.endLine == p3.line) = true)
    (S : NScope ["self", pn, "__class__"] ["self", pn] ["__class__"] (defScope st))
    (hb : ∀ (oc : Value) (od an : Option Addr) (kV doc pm ct : Value) (us : List Value), us.length = 2 →
      bindArgs (PySem.W.fnX "__init__" qual (defArgs st) (defBody st) (defScope st) [("__class__", cc)] .none kV doc pm an (.ref cda) ct) ⟨us, []⟩ = pure ((["self", pn] : List Str).zip us))
    (hks : (defScope st).names.lookup ("super" : Str) = some .globalImplicit)
    (har : ((defArgs st).posonlyargs ++ (defArgs st).args).head? = some ar) (har2 : ar.arg = "self")
    (hd1 : (pn == ("__debug__" : Str)) = false) (hd2 : (pn == ("__classdict__" : Str)) = false)
    (hlit : lit.length ≤ 1000) (hno : PySem.W.findIn K (.ref C) pn = some none) :
    ∃ fd, FnOk P w K mg base CX0 2 f fd ["self", pn] (spErr C pn okInt) ∧ Binds K fd ["self", pn] [] := by
  refine sup_fn T S (fun vs H Q E h => ?_) hb fun A outer s H vs Q E hsp s1 I => ?_
  · obtain ⟨a, v, rfl, _⟩ := h
    rfl
  · obtain ⟨a, v, rfl, ha, ⟨i, rfl, hi⟩, hQ⟩ := hsp
    have vN : Vis (ncx CX0 P w K mg base ["self", pn, "__class__"] (supNF qual st cda cc) f A outer s H E).env.scope pn := .inl (S.par _ (by simp))
    have vS : Vis (ncx CX0 P w K mg base ["self", pn, "__class__"] (supNF qual st cda cc) f A outer s H E).env.scope "self" := .inl (S.par _ (by simp))
    rw [hbd]
    refine two_run (te := fun σ H Q => tJs [tC (.str lit), tFmt (tVar 1)] Str.empty σ H fun out H1 => Q (.str out) H1) T I rfl hks (S.frk _ (by simp)) (by rw [har2]; exact S.par _ (by simp)) har (by rw [har2]; rfl) rfl ha
      (pe_joined (.cons pe_str (.cons (pe_fmt (pe_var (i := 1) rfl vN hd1 hd2)) .nil)))
      (ps_ost (pe_var (i := 0) rfl vS) (pe_var (i := 1) rfl vN hd1 hd2)) ?_ (form_of _ hln) (by rfl) (by show ((defScope st).kind == _ && _) = false; rw [S.kind]; rfl)
    have e0 := lit_small hlit
    have e1 := int_text_length_le (k := 1920) (by decide) hi
    refine ⟨lit, rfl, by rw [sizeLine_eq]; omega, _, rfl, .inr ⟨i, rfl, hi, Str.ofString (toString i), rfl, ?_, Nat.le_refl _, ha, ?_⟩⟩
    · rw [Str.length_append, PySem.ofString_length, sizeLine_eq]
      omega
    · exact ⟨_, rfl, _, rfl, a, C, rfl, T.oex, hno, .inl ⟨ha, fun dx h1 h2 => hQ dx h1 h2⟩⟩
/-- the same where the argument is a text, shown by its repr -/
theorem err_txt {lit : Str} {j : Nat} {q1 q2 q3 q4 p0 p1 p2 p3 p4 r1 r2 r3 r4 : Pos} {ar : Arg} (T : ErrTxt P K mg C f cda cc qual st)
    (hbd : defBody st = [.Expr (.Call (.Attribute (.Call (.Name "super" p0) [] [] p1) "__init__" p2) [.JoinedStr [.Constant (.str lit) j q1, .FormattedValue (.Name pn q2) 114 none q3] q4] [] p3) p4,
      .Assign [.Attribute (.Name "self" r1) pn r2] (.Name pn r3) r4]) (hln : (p2.endLine == p3.line) = true)
    (S : NScope ["self", pn, "__class__"] ["self", pn] ["__class__"] (defScope st))
    (hb : ∀ (oc : Value) (od an : Option Addr) (kV doc pm ct : Value) (us : List Value), us.length = 2 →
      bindArgs (PySem.W.fnX "__init__" qual (defArgs st) (defBody st) (defScope st) [("__class__", cc)] .none kV doc pm an (.ref cda) ct) ⟨us, []⟩ = pure ((["self", pn] : List Str).zip us))
    (hks : (defScope st).names.lookup ("super" : Str) = some .globalImplicit)
    (har : ((defArgs st).posonlyargs ++ (defArgs st).args).head? = some ar) (har2 : ar.arg = "self")
    (hd1 : (pn == ("__debug__" : Str)) = false) (hd2 : (pn == ("__classdict__" : Str)) = false)
    (hlit : lit.length ≤ 1000) (hno : PySem.W.findIn K (.ref C) pn = some none) :
    ∃ fd, FnOk P w K mg base CX0 2 f fd ["self", pn] (spErr C pn okTxt) ∧ Binds K fd ["self", pn] [] := by
  refine sup_fn T S (fun vs H Q E h => ?_) hb fun A outer s H vs Q E hsp s1 I => ?_
  · obtain ⟨a, v, rfl, _⟩ := h
    rfl
  · obtain ⟨a, v, rfl, ha, ⟨y, rfl, hy⟩, hQ⟩ := hsp
    have vN : Vis (ncx CX0 P w K mg base ["self", pn, "__class__"] (supNF qual st cda cc) f A outer s H E).env.scope pn := .inl (S.par _ (by simp))
    have vS : Vis (ncx CX0 P w K mg base ["self", pn, "__class__"] (supNF qual st cda cc) f A outer s H E).env.scope "self" := .inl (S.par _ (by simp))
    rw [hbd]
    refine two_run (te := fun σ H Q => tJs [tC (.str lit), tFmtR (tVar 1)] Str.empty σ H fun out H1 => Q (.str out) H1) T I rfl hks (S.frk _ (by simp)) (by rw [har2]; exact S.par _ (by simp)) har (by rw [har2]; rfl) rfl ha
      (pe_joined (.cons pe_str (.cons (pe_fmtR (pe_var (i := 1) rfl vN hd1 hd2)) .nil)))
      (ps_ost (pe_var (i := 0) rfl vS) (pe_var (i := 1) rfl vN hd1 hd2)) ?_ (form_of _ hln) (by rfl) (by show ((defScope st).kind == _ && _) = false; rw [S.kind]; rfl)
    have e0 := lit_small hlit
    refine ⟨lit, rfl, by rw [sizeLine_eq]; omega, _, rfl, .inl ⟨y, rfl, by rw [sizeLine_eq]; omega, reprText y, rfl, ?_, Nat.le_refl _, ha, ?_⟩⟩
    · rw [Str.length_append, sizeLine_eq]
      omega
    · exact ⟨_, rfl, _, rfl, a, C, rfl, T.oex, hno, .inl ⟨ha, fun dx h1 h2 => hQ dx h1 h2⟩⟩
end

/-! ### an own error, ready to be raised and caught -/
structure ErrOk (P : Program) (w : World) (K : PySem.W.Frag) (mg : Str → Option Value) (base : Heap) (nm : Str) (C : Addr) (fl : Str) (ok : V → Prop) : Prop where
  oex : OexC K C
  xf : XfC K C
  g : mg nm = some (.ref C)
  no : PySem.W.findIn K (.ref C) fl = some none
  te : PySem.W.exmOne K (.ref C) (.ref C) = some true
  run : ∃ (f : Addr) (fd : FuncData), PySem.W.findIn K (.ref C) "__init__" = some (some (.ref f)) ∧ PySem.W.typeIn K (.ref f) = some (.type "function") ∧
    FnOk P w K mg base CX0 2 f fd ["self", fl] (spErr C fl ok) ∧ Binds K fd ["self", fl] []

section
variable {X : Cx} {nm : Str} {C : Addr} {fl : Str} {ok : V → Prop} {e : Expr} {ta : TA} {p pos pos2 : Pos} {W : WX}
/-- raise nm(e) -/
def tErr (C : Addr) (fl : Str) (ok : V → Prop) (ta : TA) (W : WX) : TS := fun _ σ H => tMkO C (spErr C fl ok) [] ta σ H fun cls d H' => W cls d σ H'
theorem ps_err (R : ErrOk X.prog X.w X.K X.mg X.base nm C fl ok) (hc : X.calm = true) (tk : Takes X W) (hr : Room 3 X.A) (ha : PA X [e] ta) (hg : Gl X nm)
    (hdb : (nm == ("__debug__" : Str)) = false := by decide) (he : starEach [e] X.env = (false, eval e X.env) :: starEach [] X.env := by rfl) (hpl : (backTo pos (starEach [] X.env)).any (·.1) = false := by rfl) :
    PS X (.Raise (some (.Call (.Name nm p) [e] [] pos)) none pos2) (tErr C fl ok ta W) := by
  obtain ⟨f, fd, h1, h2, h3, h4⟩ := R.run
  exact ps_raise hc tk (pmk_oex R.oex h1 h2 h3 hr h4 .nil pass0 hg R.g ha hdb he hpl)
/-- what such a raise asks: the argument is fit, and every way out is met -/
theorem err_way {H1 : Hp} {v : V} {Q : XK} (hv : ok v) (h : ∀ d, H1 d = none → Q (.ref C) (some d) (upd H1 d (.xd [(fl, v)]))) :
    [v].length ≤ 1000 ∧ ∀ a, H1 a = none → spErr C fl ok (.ref a :: ([v] ++ [])) (upd H1 a (exo a C none))
      (fun r H2 => r = .non ∧ ∃ (d : Addr) (fs : List (Str × V)), H2 a = some (exo a C (some d)) ∧ H2 d = some (exd d fs) ∧ H1 d = none ∧ Q (.ref C) (some d) (upd (del H2 a) d (.xd fs))) (fun _ _ _ => False) := by
  refine ⟨by show 1 ≤ 1000; omega, fun a hn => ⟨a, v, rfl, upd_same, hv, fun dx hdx hne => ⟨rfl, dx, _, upd_same, by rw [upd_ne hne, upd_same], ?_, ?_⟩⟩⟩
  · rw [upd_ne hne] at hdx
    exact hdx
  · have hd1 : H1 dx = none := by
      rw [upd_ne hne] at hdx
      exact hdx
    have e : upd (del (upd (upd (upd H1 a (exo a C none)) dx (exd dx [(fl, v)])) a (exo a C (some dx))) a) dx (.xd [(fl, v)]) = upd H1 dx (.xd [(fl, v)]) := by
      funext b
      by_cases hb : b = dx
      · rw [hb, upd_same, upd_same]
      · rw [upd_ne hb, upd_ne hb]
        by_cases hba : b = a
        · rw [hba, del_same, hn]
        · rw [del_ne hba, upd_ne hba, upd_ne hb, upd_ne hba]
    rw [e]
    exact h dx hd1
end
end Sup

namespace Rt
open PySem PySem.Float64
theorem amgm (a b : Nat) : 4 * (a * b) ≤ (a + b) * (a + b) := by
  rcases Nat.le_total a b with c | c
  · obtain ⟨d, rfl⟩ := Nat.exists_eq_add_of_le c
    have e : (a + (a + d)) * (a + (a + d)) = 4 * (a * (a + d)) + d * d := by grind
    omega
  · obtain ⟨d, rfl⟩ := Nat.exists_eq_add_of_le c
    have e : (b + d + b) * (b + d + b) = 4 * ((b + d) * b) + d * d := by grind
    omega
theorem newton_hi (x q y n : Nat) (h1 : n < x * (q + 1)) (h2 : x + q + 1 ≤ 2 * (y + 1)) : n < (y + 1) * (y + 1) := by
  have a : (x + (q + 1)) * (x + (q + 1)) ≤ (2 * (y + 1)) * (2 * (y + 1)) := Nat.mul_le_mul (by omega) (by omega)
  have b := amgm x (q + 1)
  have e : (2 * (y + 1)) * (2 * (y + 1)) = 4 * ((y + 1) * (y + 1)) := by grind
  omega
theorem newton_lo (x q z n t h : Nat) (hx : x = t + h) (ht : t * t ≤ n) (hxn : n < x * x) (hq : x * q ≤ n) (hz : 2 * z + 2 ≤ x + q) (hh : (h * h) * (h * h) ≤ 2 * n) : z * z ≤ n := by
  refine Nat.le_of_not_lt fun c => ?_
  have zt : t < z := by
    refine Nat.lt_of_not_le fun w => ?_
    have := Nat.mul_le_mul w w
    omega
  rcases Nat.lt_or_ge x z with w | w
  · have : x < q := by omega
    have := Nat.mul_le_mul (Nat.le_refl x) (Nat.le_of_lt this)
    omega
  · obtain ⟨d, e⟩ := Nat.exists_eq_add_of_le w
    have dh : d < h := by omega
    have dd : d * d < h * h := Nat.mul_lt_mul'' dh dh
    have k : 2 * x < d * d := by
      obtain ⟨g, eg⟩ : ∃ g, q + d = z + 2 + g := ⟨q + d - (z + 2), by omega⟩
      have e1 : x * (q + d) = x * (z + 2 + g) := by rw [eg]
      have e2 : x * (q + d) = x * q + x * d := Nat.mul_add ..
      have e3 : x * (z + 2 + g) = x * z + 2 * x + x * g := by grind
      have e4 : x * z = z * z + z * d := by rw [e]; grind
      have e5 : x * d = z * d + d * d := by rw [e]; grind
      have e6 : 0 ≤ x * g := Nat.zero_le _
      omega
    have k2 : 2 * x < h * h := by omega
    have k3 : (2 * x) * (2 * x) < (h * h) * (h * h) := Nat.mul_lt_mul'' k2 k2
    have e7 : (2 * x) * (2 * x) = 4 * (x * x) := by grind
    omega
theorem root_small : ∀ n : Nat, n < 8 → rootBelow8 n * rootBelow8 n ≤ n ∧ n < (rootBelow8 n + 1) * (rootBelow8 n + 1) := by decide
theorem root_ok : ∀ (L n : Nat), n.log2 ≤ L → rootByHalves L n * rootByHalves L n ≤ n ∧ n < (rootByHalves L n + 1) * (rootByHalves L n + 1) := by
  intro L
  induction L with
  | zero =>
    intro n h
    refine root_small n ?_
    by_cases h0 : n = 0
    · omega
    · have := (Nat.log2_lt h0 (k := 1)).mp (by omega)
      omega
  | succ L ih =>
    intro n h
    by_cases h8 : n < 8
    · have e : rootByHalves (L + 1) n = rootBelow8 n := by
        unfold rootByHalves
        rw [if_pos h8]
      rw [e]
      exact root_small n h8
    · have e : rootByHalves (L + 1) n = (let k := (n.log2 + 1) / 4; let x := (rootByHalves L (n / 4 ^ k) + 1) * 2 ^ k; let y := (x + n / x) / 2; if y * y > n then y - 1 else y) := by
        rw [rootByHalves, if_neg h8]
      rw [e]
      dsimp only
      have hn0 : n ≠ 0 := by omega
      have hl3 : 3 ≤ n.log2 := (Nat.le_log2 hn0).mpr (by omega)
      have hle : 2 ^ n.log2 ≤ n := Nat.log2_self_le hn0
      generalize hk : (n.log2 + 1) / 4 = k
      have k1 : 1 ≤ k := by omega
      have k4 : 4 * k ≤ n.log2 + 1 := by omega
      have p4 : (4 : Nat) ^ k = 2 ^ k * 2 ^ k := by rw [← Nat.mul_pow]
      have h0 : 0 < (2 : Nat) ^ k := Nat.pow_pos (by decide)
      have h40 : 0 < (4 : Nat) ^ k := Nat.pow_pos (by decide)
      obtain ⟨r1, r2⟩ := ih (n / 4 ^ k) (by
        by_cases hz : n / 4 ^ k = 0
        · rw [hz, Nat.log2_zero]; omega
        · have q1 : n / 4 ^ k < 2 ^ (L + 1) := by
            refine Nat.div_lt_of_lt_mul ?_
            have q2 : n < 2 ^ (n.log2 + 1) := Nat.lt_log2_self
            have q3 : (2 : Nat) ^ (n.log2 + 1) ≤ 4 ^ k * 2 ^ (L + 1) := by
              rw [p4, ← Nat.pow_add, ← Nat.pow_add]
              exact Nat.pow_le_pow_right (by decide) (by omega)
            omega
          have := (Nat.log2_lt hz (k := L + 1)).mpr q1
          omega)
      generalize hr : rootByHalves L (n / 4 ^ k) = r at r1 r2
      generalize hh : (2 : Nat) ^ k = g at h0 p4
      generalize hx : (r + 1) * g = x
      have xt : x = r * g + g := by rw [← hx]; grind
      have tt : (r * g) * (r * g) ≤ n := by
        have a1 : (r * g) * (r * g) = r * r * 4 ^ k := by rw [p4]; grind
        have a2 : r * r * 4 ^ k ≤ n / 4 ^ k * 4 ^ k := Nat.mul_le_mul_right _ r1
        have a3 : n / 4 ^ k * 4 ^ k ≤ n := Nat.div_mul_le_self ..
        omega
      have xn : n < x * x := by
        have a1 : x * x = (r + 1) * (r + 1) * 4 ^ k := by rw [p4, ← hx]; grind
        have a2 : (n / 4 ^ k + 1) * 4 ^ k ≤ (r + 1) * (r + 1) * 4 ^ k := Nat.mul_le_mul_right _ r2
        have a3 := Nat.lt_mul_div_succ n h40
        have a4 : 4 ^ k * (n / 4 ^ k + 1) = (n / 4 ^ k + 1) * 4 ^ k := Nat.mul_comm ..
        omega
      have hg : (g * g) * (g * g) ≤ 2 * n := by
        have a1 : (g * g) * (g * g) = 2 ^ (4 * k) := by
          rw [← hh, ← Nat.pow_add, ← Nat.pow_add]
          congr 1
          omega
        have a2 : (2 : Nat) ^ (4 * k) ≤ 2 ^ (n.log2 + 1) := Nat.pow_le_pow_right (by decide) k4
        have a3 : (2 : Nat) ^ (n.log2 + 1) = 2 * 2 ^ n.log2 := by rw [Nat.pow_succ]; omega
        omega
      have x0 : 0 < x := by
        refine Nat.pos_of_ne_zero fun z => ?_
        rw [z] at xn
        omega
      have hq : x * (n / x) ≤ n := Nat.mul_div_le n x
      have hq2 : n < x * (n / x + 1) := Nat.lt_mul_div_succ n x0
      generalize hqq : n / x = q at hq hq2
      generalize hy : (x + q) / 2 = y
      have hi := newton_hi x q y n hq2 (by omega)
      by_cases c : y * y > n
      · rw [if_pos c]
        have y1 : 1 ≤ y := by
          refine Nat.pos_of_ne_zero fun z => ?_
          rw [z] at c
          omega
        have lo := newton_lo x q (y - 1) n (r * g) g xt tt xn hq (by omega) hg
        refine ⟨lo, ?_⟩
        have e2 : y - 1 + 1 = y := by omega
        rw [e2]
        exact c
      · rw [if_neg c]
        exact ⟨by omega, hi⟩
theorem isqrt_ok (n : Nat) : isqrt n * isqrt n ≤ n ∧ n < (isqrt n + 1) * (isqrt n + 1) := root_ok n.log2 n (Nat.le_refl _)
end Rt

namespace Law
open PySem PySem.Spec PyProof.Rows L2
def top (i : Nat) : Stmt := PySem.Challenge.pw_rungbounds_k01_reach_of_a_ladder.main.body.getD i (.Pass ⟨0, 0, 0, 0⟩)
abbrev sBox : Stmt := top 9
abbrev sTake : Stmt := top 10
abbrev sNum : Stmt := top 11
/-- the box at b: the cells in the list at l, the place, what is left of a great cell, the seed -/
def Box (H : Hp) (b l : Addr) : Prop := ∃ (ns : List Int) (i : Nat) (q s : Int), H b = some (.lst [.ref l, .int i, .int q, .int s]) ∧ H l = some (.lst (ns.map V.int)) ∧ ns.length ≤ 63
theorem Box.ne {H : Hp} {b l : Addr} (B : Box H b l) : l ≠ b := fun z => by
  obtain ⟨ns, i, q, s, h1, h2, _⟩ := B
  rw [z, h1] at h2
  have e := HO.lst.inj (Option.some.inj h2)
  cases ns with
  | nil => cases e
  | cons n ns => cases e
theorem Box.keep {H H' : Hp} {b l : Addr} (B : Box H b l) (k : ∀ c, c = b ∨ c = l → H' c = H c) : Box H' b l := by
  obtain ⟨ns, i, q, s, h1, h2, h3⟩ := B
  exact ⟨ns, i, q, s, (k b (.inl rfl)).trans h1, (k l (.inr rfl)).trans h2, h3⟩
/-- a draw: 0 ≤ r < size; nothing but the box has changed -/
def spTake : Sp := fun vs H Q _ => ∃ (b l : Addr) (n : Int), vs = [.ref b, .int n] ∧ Box H b l ∧ 0 < n ∧ n.natAbs < 2 ^ 8000 ∧
  ∀ (r : Int) (H' : Hp), 0 ≤ r → r < n → Box H' b l → (∀ c, c ≠ b → H' c = H c) → Q (.int r) H'
def spBox (K : PySem.W.Frag) : Sp := fun vs H Q _ => ∃ (a : Addr) (ns : List Int), vs = [.ref a] ∧ SqL K H a (ns.map V.int) ∧ ns.length ≤ 63 ∧
  ∀ (b l : Addr) (H' : Hp), Box H' b l → H b = none → H l = none → Same H H' → Q (.ref b) H'
structure BoxTxt (K : PySem.W.Frag) (mg : Str → Option Value) : Prop where
  len : mg "len" = none
  int : mg "int" = none
section
variable {P : Program} {w : World} {K : PySem.W.Frag} {mg : Str → Option Value} {base : Heap}
theorem scTake : FnScope ["_law_box_here", "_law_size", "_law_cell", "_law_digit"] ["_law_box_here", "_law_size"] (defScope sTake) := ⟨rfl, rfl, rfl, by decide +kernel, rfl, by decide +kernel, by decide +kernel⟩
theorem if_t {c : Bool} {A B : Prop} (hc : c = true) (h : A) : if c = true then A else B := by
  rw [hc]
  exact h
theorem if_f {c : Bool} {A B : Prop} (hc : c = false) (h : B) : if c = true then A else B := by
  rw [hc]
  exact h
theorem pow18 : CPow 10 18 := ⟨by decide, by decide, by decide⟩
theorem at_box {l : Addr} {i q s : Int} : atI [V.ref l, .int i, .int q, .int s] 0 = some (.ref l) ∧ atI [V.ref l, .int i, .int q, .int s] 1 = some (.int i) ∧ atI [V.ref l, .int i, .int q, .int s] 2 = some (.int q) ∧ atI [V.ref l, .int i, .int q, .int s] 3 = some (.int s) := ⟨rfl, rfl, rfl, rfl⟩
theorem ok_take {f : Addr} {fd : FuncData} (F : Fun K "_law_take" "_law_take" sTake f fd) (T : BoxTxt K mg) : FnOk P w K mg base CX0 1 f fd ["_law_box_here", "_law_size"] spTake := by
  refine F.ok scTake (fun vs H Q E h => ?_) (fun cdv A outer s H vs Q E hr h => ?_)
  · obtain ⟨b, l, n, rfl, _⟩ := h
    rfl
  · obtain ⟨b, l, n, rfl, B, hn0, hn1, k⟩ := h
    refine ⟨_, C8.pss_cut (ps_if (PW.pt (pw_and (pt_cmpR op_lt (pe_ix ix_list (pv 0) pe_int (fun _ _ => rfl)) pe_int (nomark _))
          (pw_and1 (pt_cmpR op_lt (pe_ix ix_list (pv 0) pe_int (fun _ _ => rfl)) (pe_callB call_len_seq (by rfl) T.len PySem.boot_len (pa_cons (pe_ix ix_list (pv 0) pe_int (fun _ _ => rfl)) pa_nil)) (nomark _)))))
        (pss_cons (ps_set (i := 2) scTake.nd rfl (Or.inl rfl) (pe_ix ix_list (pe_ix ix_list (pv 0) pe_int (fun _ _ => rfl)) (pe_ix ix_list (pv 0) pe_int (fun _ _ => rfl)) (fun _ _ => rfl)))
        (pss_cons (ps_asg (pe_op op_add (pe_ix ix_list (pv 0) pe_int (fun _ _ => rfl)) pe_int) (pg_sub (pv 0) pe_int set_list))
        (pss_one (ps_if (pt_cmpR op_ge (pv 2) (pe_op op_pow pe_int pe_int) (nomark _))
          (pss_one (ps_asg (pe_op op_sub (pv 2) (pe_op op_pow pe_int pe_int)) (pg_sub (pv 0) pe_int set_list)))
          (pss_one (ps_asg (pe_op op_mod (pe_callTy call_int1 (by rfl) T.int (by decide +kernel) (pa_cons (pe_op op_add (pe_op op_add (pe_op op_mul (pe_ix ix_list (pv 0) pe_int (fun _ _ => rfl)) pe_int) (pe_op op_mul (pv 2) pe_int)) pe_int) pa_nil)) pe_int) (pg_sub (pv 0) pe_int set_list)))))))
        pss_nil)
      (pss_cons (ps_if (pt_cmpR op_gt (pe_ix ix_list (pv 0) pe_int (fun _ _ => rfl)) pe_int (nomark _))
        (pss_cons (ps_set (i := 3) scTake.nd rfl (Or.inl rfl) (pe_op op_mod (pe_callTy call_int1 (by rfl) T.int (by decide +kernel) (pa_cons (pe_ix ix_list (pv 0) pe_int (fun _ _ => rfl)) pa_nil)) (pv 1)))
        (pss_cons (ps_asg (pe_op op_fdivW (pe_ix ix_list (pv 0) pe_int (fun _ _ => rfl)) (pv 1)) (pg_sub (pv 0) pe_int set_list))
        (pss_one (ps_ret (pv 3))))) pss_nil)
      (pss_cons (ps_asg (pe_op op_mod (pe_callTy call_int1 (by rfl) T.int (by decide +kernel) (pa_cons (pe_op op_mul (pe_ix ix_list (pv 0) pe_int (fun _ _ => rfl)) pe_int) pa_nil)) pe_int) (pg_sub (pv 0) pe_int set_list))
      (pss_one (ps_ret (pe_op op_mod (pe_callTy call_int1 (by rfl) T.int (by decide +kernel) (pa_cons (pe_op op_fdiv (pe_ix ix_list (pv 0) pe_int (fun _ _ => rfl)) pe_int) pa_nil)) (pv 1)))))), ?_⟩
    obtain ⟨ns, i, q, sd, hb, hl, h63⟩ := id B
    have hne := B.ne
    have keepB : ∀ {H' : Hp} {i' : Nat} {q' s' : Int}, H' b = some (.lst [.ref l, .int i', .int q', .int s']) → (∀ c, c ≠ b → H' c = H c) → Box H' b l :=
      fun {H' i' q' s'} h1 h2 => ⟨ns, i', q', s', h1, (h2 l hne).trans hl, h63⟩
    refine ⟨fun σ' H' => ∃ (v : Option V) (i' : Nat) (q' s' : Int), σ' = [some (.ref b), some (.int n), v, none] ∧ H' b = some (.lst [.ref l, .int i', .int q', .int s']) ∧ ∀ c, c ≠ b → H' c = H c, ?_, ?_⟩
    · -- a new cell is read, or not
      refine ⟨_, rfl, b, _, _, _, rfl, rfl, SqL.of hb, at_box.2.2.1, _, _, rfl, rfl, _, rfl, ?_⟩
      by_cases c1 : q < 1
      · refine if_t (decide_eq_true c1) ?_
        refine ⟨_, rfl, b, _, _, _, rfl, rfl, SqL.of hb, at_box.2.1, _, rfl, b, _, _, _, rfl, rfl, SqL.of hb, at_box.1, l, _, rfl, .inl (SqL.of hl), _, _, rfl, rfl, _, rfl, ?_⟩
        by_cases c2 : (i : Int) < ((ns.map V.int).length : Int)
        · refine if_t (decide_eq_true c2) ?_
          rw [List.length_map] at c2
          obtain ⟨z, hz⟩ : ∃ z, ns[i]? = some z := ⟨_, List.getElem?_eq_getElem (by omega)⟩
          have hz' : atI (ns.map V.int) (i : Int) = some (V.int z) := atI_nat (by rw [List.getElem?_map, hz]; rfl)
          refine ⟨_, rfl, b, _, _, _, rfl, rfl, SqL.of hb, at_box.1, _, rfl, b, _, _, _, rfl, rfl, SqL.of hb, at_box.2.1, l, _, _, _, rfl, rfl, SqL.of hl, hz', ?_⟩
          refine ⟨_, rfl, b, _, _, _, rfl, rfl, SqL.of hb, at_box.2.1, _, _, rfl, rfl, _, rfl, b, _, _, 1, rfl, rfl, hb, rfl, ?_⟩
          have h1 : ∀ (o : HO), upd H b o b = some o := fun o => upd_same
          have hc : ∀ (o : HO) c, c ≠ b → upd H b o c = H c := fun o c hc => upd_ne hc
          refine ⟨_, rfl, _, _, rfl, rfl, pow18, _, _, rfl, rfl, _, rfl, ?_⟩
          refine ite2 (fun _ => ?_) fun _ => ?_
          · refine ⟨_, rfl, _, _, rfl, rfl, pow18, _, _, rfl, rfl, _, rfl, b, _, _, 2, rfl, rfl, h1 _, rfl, ?_⟩
            exact ⟨some (.int z), i + 1, _, sd, rfl, upd_same, fun c hc' => by rw [upd_ne hc', upd_ne hc']⟩
          · refine ⟨_, rfl, b, _, _, _, rfl, rfl, SqL.of (h1 _), at_box.2.2.2, _, _, rfl, rfl, .inr ⟨by decide, by decide⟩, _, rfl, _, _, rfl, rfl, .inr ⟨by decide, by decide⟩, _, _, rfl, rfl, _, _, rfl, rfl, .inl ⟨_, rfl, _, _, rfl, rfl, (by show (0 : Int) < 2147483647; decide), _, rfl, b, _, _, 3, rfl, rfl, h1 _, rfl, ?_⟩⟩
            exact ⟨some (.int z), i + 1, q, _, rfl, upd_same, fun c hc' => by rw [upd_ne hc', upd_ne hc']⟩
        · refine if_f (decide_eq_false c2) ?_
          exact ⟨none, i, q, sd, rfl, hb, fun _ _ => rfl⟩
      · refine if_f (decide_eq_false c1) ?_
        exact ⟨none, i, q, sd, rfl, hb, fun _ _ => rfl⟩
    · rintro σ' H' ⟨v, i', q', s', rfl, hb', ho⟩
      refine ⟨_, rfl, b, _, _, _, rfl, rfl, SqL.of hb', at_box.2.2.1, _, _, rfl, rfl, _, rfl, ?_⟩
      refine ite2 (fun _ => ?_) fun _ => ?_
      · refine ⟨_, rfl, b, _, _, _, rfl, rfl, SqL.of hb', at_box.2.2.1, .inl ⟨_, rfl, _, rfl, _, _, rfl, rfl, hn0, ?_⟩⟩
        refine ⟨_, rfl, b, _, _, _, rfl, rfl, SqL.of hb', at_box.2.2.1, _, rfl, _, _, rfl, rfl, wide_div hn0 hn1 (by decide) (by decide), _, rfl, b, _, _, 2, rfl, rfl, hb', rfl, _, rfl, ?_⟩
        exact k _ _ (Int.emod_nonneg _ (by omega)) (Int.emod_lt_of_pos _ hn0) (keepB (q' := q' / n) upd_same fun c hc => (upd_ne hc).trans (ho c hc)) fun c hc => (upd_ne hc).trans (ho c hc)
      · refine ⟨_, rfl, b, _, _, _, rfl, rfl, SqL.of hb', at_box.2.2.2, _, _, rfl, rfl, .inr ⟨by decide, by decide⟩, .inl ⟨_, rfl, _, _, rfl, rfl, (by show (0 : Int) < 2147483647; decide), _, rfl, b, _, _, 3, rfl, rfl, hb', rfl, ?_⟩⟩
        refine ⟨_, rfl, b, _, _, _, rfl, rfl, SqL.of upd_same, at_box.2.2.2, _, _, rfl, rfl, ⟨by decide, by decide⟩, .inl ⟨_, rfl, _, rfl, _, _, rfl, rfl, hn0, ?_⟩⟩
        exact k _ _ (Int.emod_nonneg _ (by omega)) (Int.emod_lt_of_pos _ hn0) (keepB upd_same fun c hc => (upd_ne hc).trans (ho c hc)) fun c hc => (upd_ne hc).trans (ho c hc)

theorem cut63 {xs : List V} (h : xs.length ≤ 63) : cutV xs none (some 63) = xs := by
  unfold cutV
  have e0 : HT.sIx xs.length 0 none = 0 := rfl
  have e1 : HT.sIx xs.length xs.length (some 63) = xs.length := by
    unfold HT.sIx
    simp
    omega
  rw [e0, e1, List.drop_zero, Nat.sub_zero, List.take_length]
theorem scBox : FnScope ["_law_script", "_law_cell"] ["_law_script"] (defScope sBox) := ⟨rfl, rfl, rfl, by decide +kernel, rfl, by decide +kernel, by decide +kernel⟩
theorem ok_box {f : Addr} {fd : FuncData} (F : Fun K "_law_box" "_law_box" sBox f fd) (T : BoxTxt K mg) : FnOk P w K mg base CX0 1 f fd ["_law_script"] (spBox K) := by
  refine F.ok scBox (fun vs H Q E h => ?_) (fun cdv A outer s H vs Q E hr h => ?_)
  · obtain ⟨a, ns, rfl, _⟩ := h
    rfl
  · obtain ⟨a, ns, rfl, hS, h63, k⟩ := h
    refine ⟨_, pss_one (ps_ret (pe_lst (pa_cons (pe_lc (own := [("_law_cell", 1)]) (g := gName 1) (tt := tYes) (by rfl) scBox.nd (pi_list (pe_slice sl_list (pv 0) po_none (po_some pe_int)))
        (blkOk_by (own := [("_law_cell", 1)]) (N := ["_law_script", "_law_cell"]) (sc := defScope sBox) (by decide +kernel)) (fun _ _ _ _ _ => pg_name (i := 1) scBox.nd rfl (Or.inl rfl)) (fun _ _ _ _ _ => pts_nil)
        (fun _ _ _ _ _ => pe_callTy call_int1 (by rfl) T.int (by decide +kernel) (pa_cons (pv 1) pa_nil))) (pa_cons pe_int (pa_cons pe_int (pa_cons pe_int pa_nil)))))), ?_⟩
    have e63 : cutV (ns.map V.int) none (some 63) = ns.map V.int := cut63 (by rw [List.length_map]; exact h63)
    refine ⟨_, rfl, 63, rfl, a, _, rfl, hS, fun p hp => ?_⟩
    rw [e63]
    refine ⟨p, rfl, ⟨_, SqL.of upd_same⟩, fun D hD => ?_⟩
    have hpD : p ≠ D := fun z => by
      rw [z, upd_same] at hD
      cases hD
    have hD0 : H D = none := by rw [upd_ne (Ne.symm hpD)] at hD; exact hD
    refine lc_list (K := K) (a := p) (xs := ns.map V.int) (fun i H' => H' D = some (.lst ((ns.take i).map V.int)) ∧ H' p = some (.lst (ns.map V.int)) ∧ ∀ c, c ≠ D → c ≠ p → H' c = H c)
      ⟨upd_same, by rw [upd_ne hpD, upd_same], fun c h1 h2 => by rw [upd_ne h1, upd_ne h2]⟩ (fun i H' _ h => SqL.of h.2.1) ?_ ?_
    · rintro i y H' hi ⟨g1, g2, g3⟩
      obtain ⟨z, hz, rfl⟩ : ∃ z, ns[i]? = some z ∧ y = V.int z := by
        rw [List.getElem?_map] at hi
        cases e : ns[i]? with
        | none =>
          rw [e] at hi
          cases hi
        | some z =>
          rw [e] at hi
          exact ⟨z, rfl, (Option.some.inj hi).symm⟩
      refine ⟨rfl, ?_⟩
      have step : ∃ acc, H' D = some (.lst acc) ∧ acc.length < sizeLine ∧ (upd H' D (.lst (acc ++ [V.int z]))) D = some (.lst ((ns.take (i + 1)).map V.int)) ∧ (upd H' D (.lst (acc ++ [V.int z]))) p = some (.lst (ns.map V.int)) ∧
          ∀ c, c ≠ D → c ≠ p → (upd H' D (.lst (acc ++ [V.int z]))) c = H c := by
        refine ⟨_, g1, ?_, ?_⟩
        · rw [List.length_map, List.length_take]
          exact small1000 (by omega)
        · refine ⟨?_, by rw [upd_ne hpD]; exact g2, fun c h1 h2 => by rw [upd_ne h1]; exact g3 c h1 h2⟩
          rw [upd_same, List.take_succ, hz, Option.toList_some, List.map_append]
          rfl
      exact ⟨V.int z, rfl, .inl ⟨z, rfl, step⟩⟩
    · rintro H' ⟨g1, g2, g3⟩
      rw [List.length_map, List.take_length] at g1
      refine ⟨(by show 4 ≤ sizeLine; decide), fun b hb => ?_⟩
      have hDb : D ≠ b := ne_of_none g1 hb
      have hpb : p ≠ b := ne_of_none g2 hb
      refine k b D _ ⟨ns, 0, 0, 0, upd_same, by rw [upd_ne hDb]; exact g1, h63⟩ (by rw [← g3 b (Ne.symm hDb) (Ne.symm hpb)]; exact hb) hD0 fun c o hc => ?_
      have n1 : c ≠ D := ne_of_none hc hD0
      have n2 : c ≠ p := ne_of_none hc hp
      have n3 : c ≠ b := fun z => by
        rw [z, ← g3 b (Ne.symm hDb) (Ne.symm hpb), hb] at hc
        cases hc
      rw [upd_ne n3, g3 c n1 n2]
      exact hc
theorem scNum : FnScope ["_law_x"] ["_law_x"] (defScope sNum) := ⟨rfl, rfl, rfl, by decide +kernel, rfl, by decide +kernel, by decide +kernel⟩
def spNum : Sp := fun vs H Q _ => ∃ i : Int, vs = [.int i] ∧ Q (.bl true) H
structure NumTxt (mg : Str → Option Value) : Prop where
  isi : mg "isinstance" = none
  int : mg "int" = none
  bool : mg "bool" = none
theorem ok_num {f : Addr} {fd : FuncData} (F : Fun K "_law_number" "_law_number" sNum f fd) (T : NumTxt mg) : FnOk P w K mg base CX0 1 f fd ["_law_x"] spNum := by
  refine F.ok scNum (fun vs H Q E h => ?_) (fun cdv A outer s H vs Q E hr h => ?_)
  · obtain ⟨i, rfl, _⟩ := h
    rfl
  · obtain ⟨i, rfl, k⟩ := h
    refine ⟨_, pss_one (ps_ret (pe_and (pe_callB call_isi (by rfl) T.isi (by decide +kernel) (pa_cons (pv 0) (pa_cons (pe_bltn (v := .ty "int") (by rfl) T.int (by decide +kernel) rfl) pa_nil)))
      (pe_one (pe_not (pe_callB call_isi (by rfl) T.isi (by decide +kernel) (pa_cons (pv 0) (pa_cons (pe_bltn (v := .ty "bool") (by rfl) T.bool (by decide +kernel) rfl) pa_nil))))))), ?_⟩
    refine ⟨_, rfl, V.int i, .ty "int", .type "int", .type "int", true, rfl, .ty _, .base (.int i), by rfl, true, rfl, ?_⟩
    refine if_t rfl ⟨_, rfl, V.int i, .ty "bool", .type "int", .type "bool", false, rfl, .ty _, .base (.int i), by rfl, false, rfl, k⟩
end
end Law

namespace Law
open PySem PySem.Spec PyProof.Rows L2 Sup
/-- the whole part of a root -/
theorem call_isqrt {X : Cx} : CallR X (.builtin "math.isqrt") (fun xs H Q => ∃ i : Int, xs = [.int i] ∧ 0 ≤ i ∧ i.natAbs < 2 ^ 9000 ∧ ∀ r : Int, 0 ≤ r → r * r ≤ i → i < (r + 1) * (r + 1) → Q (.int r) H) := by
  intro pins s σ H xs us Q I r h
  obtain ⟨i, rfl, h0, h9, q⟩ := h
  obtain ⟨u, rfl, t, rfl⟩ := vals1 r
  have e : i.toNat = i.natAbs := by omega
  have hl : i.toNat.log2 ≤ 8999 := by
    rw [e]
    by_cases hz : i.natAbs = 0
    · rw [hz, Nat.log2_zero]
      omega
    · have := (Nat.log2_lt hz (k := 9000)).mpr h9
      omega
  obtain ⟨r1, r2⟩ := Rt.isqrt_ok i.toNat
  have z1 : ((Float64.isqrt i.toNat : Nat) : Int) * ((Float64.isqrt i.toNat : Nat) : Int) ≤ i := by
    have := Int.ofNat_le.mpr r1
    rw [Int.natCast_mul] at this
    omega
  have z2 : i < (((Float64.isqrt i.toNat : Nat) : Int) + 1) * (((Float64.isqrt i.toNat : Nat) : Int) + 1) := by
    have := Int.ofNat_lt.mpr r2
    rw [Int.natCast_mul, Int.natCast_add] at this
    have e1 : ((1 : Nat) : Int) = 1 := rfl
    rw [e1] at this
    omega
  exact call_function_meets PySem.W.MGF.kind_isqrt PySem.W.MGF.plain_isqrt PySem.W.MGF.entry_isqrt (PySem.W.MGF.args_isqrt _) (PySem.W.mg_run_isqrt i t (by omega) (by omega) (by omega)).meets ⟨.int _, H, I.tok _, ⟨_, rfl⟩, q _ (Int.natCast_nonneg _) z1 z2⟩
end Law

namespace Law
open PySem PySem.Spec PyProof.Rows L2 Sup
abbrev sErr : Stmt := inClass (top 3) 0
abbrev sChk : Stmt := top 6
/-- the way out by BadNumber -/
def Bad (C : Addr) (E : XK) (H : Hp) (v : Int) : Prop := ∀ d, H d = none → E (.ref C) (some d) (upd H d (.xd [("value", .int v)]))
def spChk (C : Addr) : Sp := fun vs H Q E => ∃ i : Int, vs = [.int i] ∧ i.natAbs < 2 ^ 1000 ∧ (i < 0 → Bad C E H i) ∧ (0 ≤ i → Q .non H)
theorem log_of {i : Int} {k : Nat} (hk : 0 < k) (h : i.natAbs < 2 ^ k) : i.natAbs.log2 < k := by
  by_cases hz : i.natAbs = 0
  · rw [hz, Nat.log2_zero]
    exact hk
  · exact (Nat.log2_lt hz).mpr h
section
variable {P : Program} {w : World} {K : PySem.W.Frag} {mg : Str → Option Value} {base : Heap} {C : Addr}
theorem scChk : FnScope ["number"] ["number"] (defScope sChk) := ⟨rfl, rfl, rfl, by decide +kernel, rfl, by decide +kernel, by decide +kernel⟩
theorem ok_chk {f : Addr} {fd : FuncData} (F : Fun K "check_not_negative" "check_not_negative" sChk f fd) (R : ErrOk P w K mg base "BadNumber" C "value" okInt) : FnOk P w K mg base (L2.CX P w) 4 f fd ["number"] (spChk C) := by
  refine F.okX scChk (fun vs H Q E h => ?_) (fun cdv A outer s H vs Q E hr h => ?_)
  · obtain ⟨i, rfl, _⟩ := h
    rfl
  · obtain ⟨i, rfl, hi, h1, h2⟩ := h
    refine ⟨_, pss_one (ps_if (pt_cmpR op_lt (pv 0) pe_int (nomark _)) (pss_one (ps_err R rfl (takes_of rfl rfl rfl rfl) hr (pa_cons (pv 0) pa_nil) rfl)) pss_nil), ?_⟩
    refine ⟨_, rfl, _, _, rfl, rfl, _, rfl, ?_⟩
    by_cases c : i < 0
    · refine if_t (decide_eq_true c) ⟨_, rfl, err_way ⟨i, rfl, log_of (by decide) (Nat.lt_of_lt_of_le hi (Nat.pow_le_pow_right (by decide) (by decide)))⟩ (h1 c)⟩
    · exact if_f (decide_eq_false c) (h2 (by omega))
end
def Sz (i : Int) : Prop := i.natAbs < 2 ^ 200
theorem Sz.mul {a b : Int} (ha : a.natAbs < 2 ^ 300) (hb : b.natAbs < 2 ^ 300) : CMulW a b := wide_mul ha hb (by decide) (by decide) (by decide)
theorem Sz.w {a : Int} (ha : Sz a) : a.natAbs < 2 ^ 300 := Nat.lt_of_lt_of_le ha (Nat.pow_le_pow_right (by decide) (by decide))
theorem Sz.t {a : Int} (ha : Sz a) : a.natAbs < 2 ^ 1000 := Nat.lt_of_lt_of_le ha (Nat.pow_le_pow_right (by decide) (by decide))
theorem Sz.of {i : Int} (h : i.natAbs ≤ 10 ^ 42) : Sz i := Nat.lt_of_le_of_lt h (by decide +kernel)
theorem pow_ok {j : Int} (h : 0 ≤ j ∧ j ≤ 1000000) : CPow 10 j := ⟨h.1, h.2, by decide⟩
theorem size_fit {n : Int} (h0 : 0 < n) (h : n ≤ 10 ^ 40) : n.natAbs < 2 ^ 8000 := by
  have h1 : n.natAbs ≤ 10 ^ 40 := by omega
  exact Nat.lt_of_le_of_lt h1 (by decide +kernel)
end Law

namespace Law
open PySem PySem.Spec PyProof.Rows L2 Sup
/-! isinstance of a caught error that has its own dict -/
section
open PySem.W
variable {prog : Program} {w : World} {A : Around} {E : Value → Shared → Prop} {s : Shared} {K : Frag} {x D : Addr} {ox : Obj} {od : Option Obj}
theorem find_data {C : Addr} {nm : Str} {a g : Value} (h1 : (clsIn K C).isSome = true) (h2 : findIn K (.ref C) nm = some (some a)) (h3 : specialIn K a "__get__" = some (some g)) (h4 : takesIn K a = some true) :
    findObj K C od nm = some (.bind g a) := by
  obtain ⟨cd, hcd⟩ := Option.isSome_iff_exists.mp h1
  simp [findObj, hcd, h2, h3, h4]
theorem class_of_err (T : ExcC K D) {Q : Option Value → Shared → Prop} (X : K.In s.heap) (I : InstAt s.heap x ox D od) (h : Q (some (.ref D)) { s with toks := s.toks + 1 }) :
    wpAny (model prog w) A (getAttr? (.ref x) "__class__") Q E s := by
  have isS : (clsIn K D).isSome = true := by
    obtain ⟨cd, hcd, _⟩ := any_some T.hd
    rw [hcd]; rfl
  have hf : findObj K D od "__class__" = some (.bind (.builtin "getset_descriptor.__get__") (.builtin "object.__class__")) :=
    find_data isS T.ha T.hn T.ht
  obtain ⟨hp, g, d, t, os⟩ := s
  have M0 := I.type (M := model prog w)
  have M1 := looks_findIn (M := model prog w) X T.hg
  have M2 := looks_findIn (M := model prog w) X T.hk
  have M3 := looks_find (M := model prog w) X I hf
  have sub : Looks (model prog w) hp (isInstance (.ref x) (.type "BaseException")) true := M0.andThen (looks_subIn X T.hs)
  have n0 : (false && onTheHeap (Value.builtin "BaseException.__getattribute__")) = false := rfl
  have n1 : (onTheHeap (Value.ref D) && Value.builtin "BaseException.__getattribute__" == Value.builtin "object.__getattribute__") = false := by
    have z : (Value.builtin "BaseException.__getattribute__" == Value.builtin "object.__getattribute__") = false := by decide +kernel
    rw [z]; rfl
  unfold getAttr? getAttrBy? getAttrBy
  refine wpAny_bind (wpAny_mkText (wpAny_bind (wpAny_attempt (wpAny_holding (wpAny_bind (M0.at (wpAny_bind (M1.at ?_))))))))
  show wpAny _ _ (if (onTheHeap (Value.ref D) && Value.builtin "BaseException.__getattribute__" == Value.builtin "object.__getattribute__") = true
    then _ else _) _ _ _
  rw [n1, if_neg Bool.false_ne_true]
  unfold getAttrByItsOwn hookBefore
  refine wpAny_bind ?_
  rw [if_pos (show onTheHeap (Value.ref D) = true from rfl)]
  refine M2.at ?_
  refine wpAny_bind (wpAny_attempt (wpAny_holding ?_))
  unfold callGetattribute
  rw [n0, if_neg Bool.false_ne_true]
  unfold boundAndCalled
  rw [PySem.F.excAttr_ValueError.ga.bind (.ref x)]
  refine wpAny_bind (wpAny_pure ?_)
  show wpAny _ _ (call (.builtin "BaseException.__getattribute__")
    [.ref x, .str "__class__" t]) _ _ _
  refine wpAny_call (codeAny_call_builtin PySem.F.excAttr_ValueError.ga.plain PySem.F.entry_bexc_ga ?_)
  refine @check_slot (model prog w) _ _ ⟨hp, g, d, t + 1, os⟩ "BaseException.__getattribute__" "BaseException" "__getattribute__" (.ref x)
    [.str "__class__" t] [] _ (by decide +kernel) (by decide +kernel) sub (PySem.F.args_bexc_ga (.ref x) (.str "__class__" t)) ?_
  unfold Builtin.«object.__getattribute__»
  refine wpAny_bind (wpAny_of_eq (a := ((Value.ref x : Value), [Value.str "__class__" t])) (by first | rfl | (simp only [slotArgs]; rfl)) ?_)
  refine wpAny_bind (wpAny_pure (wpAny_bind (M0.at (wpAny_bind (M3.at ?_)))))
  show wpAny _ _ (holding [Value.builtin "object.__class__"] (call (.builtin "getset_descriptor.__get__")
    [.builtin "object.__class__", .ref x, .ref D]) >>= ret) _ _ _
  refine wpAny_bind (wpAny_holding (wpAny_call (class_get (s := ⟨hp, g, d, t + 1, os⟩) (ox := ox) (od := od) X I T.hm ?_)))
  refine wpAny_pure ?_
  show wpAny _ _ (handedOut (.ref D)) _ _ _
  rw [handedOut_of (v := .ref D) rfl]
  first
    | exact wpAny_pure (wpAny_pure h)
    | exact wpAny_pure h
    | exact wpAny_pure (wpAny_bind (wpAny_pure (wpAny_pure h)))
theorem kit_err (T : ExcC K D) : KitX K (.ref x) (.ref D) (fun h => ∃ od, InstAt h x ox D od) where
  ty := fun _ _ _ ⟨_, I⟩ => I.type
  it := fun _ _ X _ => by
    obtain ⟨cdD, hcD, _⟩ := any_some T.hd
    unfold clsIn at hcD
    split at hcD
    · rename_i ho
      intro A' Q' E' s' k q
      unfold isType loadHead
      exact wpAny_bind (wpAny_loadPart (k _ _ (X _ _ ho)) (wpAny_pure q))
    · cases hcD
  ne := fun h tp dd its n sl X htp => by
    obtain ⟨cdD, hcD, _⟩ := any_some T.hd
    unfold clsIn at hcD
    split at hcD
    · rename_i ho
      refine Bool.eq_false_iff.mpr fun q => ?_
      have e : D = tp := Value.ref.inj (beq_iff_eq.mp q)
      subst e
      have z := (X _ _ ho).symm.trans htp
      cases z
    · cases hcD
  ca := fun X I k => by
    obtain ⟨od, I⟩ := I
    exact class_of_err T X I k
end
/-- isinstance(e, c), e the exception that the suite holds, its own dict at d -/
def rIsD (K : PySem.W.Frag) (D a : Addr) (cls : Value) (d : Option Addr) : List V → Hp → VK → Prop := fun xs H Q =>
  ∃ (c : V) (cv : Value) (b : Bool) (dd : Addr) (fs : List (Str × V)), xs = [.ref a, c] ∧ cls = .ref D ∧ d = some dd ∧ H dd = some (.xd fs) ∧ (∀ u, RelV c u → u = cv) ∧ PySem.W.kitOne K (.ref D) cv = some b ∧ Q (.bl b) H
theorem call_isD {X : Cx} {a D : Addr} {oe : Obj} {cls : Value} {d : Option Addr} {pn : List (Addr × Obj)} (T : ExcC X.K D) (hz : Zc cls d oe) (hf : ∃ vs, oe.data = .fields vs) :
    CallR (X.suite a ((a, oe) :: pn)) (.builtin "isinstance") (rIsD X.K D a cls d) := by
  intro pins s σ H xs us Q I r h
  obtain ⟨c, cv, b, dd, fs, rfl, rfl, rfl, hd, hcv, e, q⟩ := h
  cases r with
  | cons rx rr =>
    cases rr with
    | cons rt rr =>
      cases rr
      cases rx
      have ec := hcv _ rt
      subst ec
      obtain ⟨hget, _⟩ := I.pin (a, oe) (List.mem_append.mpr (.inl List.mem_cons_self))
      obtain ⟨vs, hv⟩ := hf
      obtain ⟨mA, hns, _⟩ := (show ObjOk X.prog X.w H s.heap dd (.xd fs) from I.hok dd _ hd)
      obtain ⟨ob, ho, _⟩ := lookIn_ns hns
      have J : ∃ od, PySem.W.InstAt s.heap a oe D od := ⟨some ob, hget, hz.1, by unfold PySem.W.notCls; rw [hv], by rw [hz.2]; exact ho⟩
      exact PySem.W.kia_one (kit_err T) I.kIn J e (fun z => nomatch z) fun tk => ⟨.bl b, H, I.kept (t' := tk) fun _ _ z => z, rfl, q⟩
end Law

namespace Law
open PySem PySem.Spec PyProof.Rows L2 Sup
abbrev sReach : Stmt := top 7
abbrev sRef : Stmt := top 12
abbrev sLaw : Stmt := top 13
def ReachR (L f r : Int) : Prop := (L < f → r = -1) ∧ (f ≤ L → 0 ≤ r ∧ r * r ≤ L * L - f * f ∧ L * L - f * f < (r + 1) * (r + 1))
def spReach (C : Addr) : Sp := fun vs H Q E => ∃ L f : Int, vs = [.int L, .int f] ∧ Sz L ∧ Sz f ∧ (L < 0 → Bad C E H L) ∧ (0 ≤ L → f < 0 → Bad C E H f) ∧ (0 ≤ L → 0 ≤ f → ∀ r, ReachR L f r → Q (.int r) H)
section
variable {P : Program} {w : World} {K : PySem.W.Frag} {mg : Str → Option Value} {base : Heap} {C : Addr}
structure Calls_ (mg : Str → Option Value) (fK fF : Addr) : Prop where
  chk : mg "check_not_negative" = some (.ref fK)
  reach : mg "reach" = some (.ref fF)
  sq : mg "isqrt" = some (.builtin "math.isqrt")
theorem scReach : FnScope ["length", "foot"] ["length", "foot"] (defScope sReach) := ⟨rfl, rfl, rfl, by decide +kernel, rfl, by decide +kernel, by decide +kernel⟩
theorem ok_reach {f fK fF : Addr} {fd fdK : FuncData} (F : FunD K "reach" "reach" (defArgs sReach) (defBody sReach) (defScope sReach) [.int 0] [] f fd) (R : ErrOk P w K mg base "BadNumber" C "value" okInt)
    (FK : Fun K "check_not_negative" "check_not_negative" sChk fK fdK) (bK : Binds K fdK ["number"] []) (T : Calls_ mg fK fF) : FnOk P w K mg base (L2.CX P w) 5 f fd ["length", "foot"] (spReach C) := by
  have GK : FnOk P w K mg base (L2.CX P w) 4 fK fdK ["number"] (spChk C) := ok_chk FK R
  refine F.ok scReach (fun vs H Q E h => ?_) (fun cdv A outer s H vs Q E hr h => ?_)
  · obtain ⟨L, h, rfl, _⟩ := h
    rfl
  · obtain ⟨L, h, rfl, hL, hh, h1, h2, h3⟩ := h
    refine ⟨_, (pss_cons (ps_expr (pe_call (E := E) GK hr rfl T.chk FK.kp bK .nil (passes_call (takes_of rfl rfl rfl rfl) fun _ _ _ _ z => z) (pa_cons (pv 0) pa_nil)))
      (pss_cons (ps_expr (pe_call (E := E) GK hr rfl T.chk FK.kp bK .nil (passes_call (takes_of rfl rfl rfl rfl) fun _ _ _ _ z => z) (pa_cons (pv 1) pa_nil)))
      (pss_cons (ps_if (pt_cmpR op_gt (pv 1) (pv 0) (nomark _)) (pss_one (ps_ret (pe_un un_neg pe_int))) pss_nil)
      (pss_one (ps_ret (pe_callBfun call_isqrt rfl T.sq (pa_cons (pe_op op_sub (pe_op op_mulW (pv 0) (pv 0)) (pe_op op_mulW (pv 1) (pv 1))) pa_nil))))))), ?_⟩
    refine ⟨_, rfl, L, rfl, hL.t, fun c => h1 c, fun c0 => ?_⟩
    refine ⟨_, rfl, h, rfl, hh.t, fun c => h2 c0 c, fun d0 => ?_⟩
    have k := h3 c0 d0
    refine ⟨_, rfl, _, rfl, _, _, rfl, rfl, _, rfl, ?_⟩
    by_cases c : L < h
    · exact if_t (decide_eq_true c) ⟨_, rfl, k (-1) ⟨fun _ => rfl, fun z => by omega⟩⟩
    · refine if_f (decide_eq_false c) ?_
      have hle : h * h ≤ L * L := Int.mul_le_mul (by omega) (by omega) d0 c0
      have hb : (L * L).natAbs < 2 ^ 400 := wide_lt (a := 200) (b := 200) hL hL
      have hp : (2 : Nat) ^ 400 ≤ 2 ^ 9000 := Nat.pow_le_pow_right (by decide) (by decide)
      have h5 : 0 ≤ h * h := Int.mul_nonneg d0 d0
      refine ⟨_, rfl, _, rfl, _, _, rfl, rfl, Sz.mul hL.w hL.w, _, rfl, _, rfl, _, _, rfl, rfl, Sz.mul hh.w hh.w, _, _, rfl, rfl, _, rfl, by omega, ?_, fun r r0 r1 r2 => k r ⟨fun z => by omega, fun _ => ⟨r0, r1, r2⟩⟩⟩
      generalize (2 : Nat) ^ 9000 = big at hp ⊢
      generalize (2 : Nat) ^ 400 = mid at hp hb
      generalize L * L = a at *
      generalize h * h = b at *
      omega
/-- the law's own def: the refused number in a list, or the empty list -/
def spRef : Sp := fun vs H Q _ => ∃ L h : Int, vs = [.int L, .int h] ∧ Sz L ∧ Sz h ∧ ∀ (p : Addr) (H' : Hp), H p = none → Same H H' → H' p = some (.lst (if L < 0 then [V.int L] else if h < 0 then [V.int h] else [])) → Q (.ref p) H'
structure RefTxt (K : PySem.W.Frag) (mg : Str → Option Value) (C B CN : Addr) : Prop where
  ex : ExcC K C
  gB : mg "LadderError" = some (.ref B)
  gN : mg "BadName" = some (.ref CN)
  isi : mg "isinstance" = none
  ve : mg "ValueError" = none
  teB : PySem.W.exmOne K (.ref C) (.ref B) = some true
  k1 : PySem.W.kitOne K (.ref C) (.ref C) = some true
  k2 : PySem.W.kitOne K (.ref C) (.type "ValueError") = some true
  k3 : PySem.W.kitOne K (.ref C) (.ref CN) = some false
theorem scRef : FnScope ["_law_length", "_law_stand", "e"] ["_law_length", "_law_stand"] (defScope sRef) := ⟨rfl, rfl, rfl, by decide +kernel, rfl, by decide +kernel, by decide +kernel⟩
def tIsD (K : PySem.W.Frag) (C a : Addr) (cls : Value) (d : Option Addr) (tc : TE) : TE := tCB (rIsD K C a cls d) (tCons (tVar 2) (tCons tc tNil))
theorem ok_ref {f fK fF B CN : Addr} {fd fdF : FuncData} (F : Fun K "_law_refused" "_law_refused" sRef f fd) (R : ErrOk P w K mg base "BadNumber" C "value" okInt) (U : RefTxt K mg C B CN)
    (GF : FnOk P w K mg base (L2.CX P w) 5 fF fdF ["length", "foot"] (spReach C)) (kF : PySem.W.keepIn K (.ref fF) = true) (bF : Binds K fdF ["length", "foot"] []) (T : Calls_ mg fK fF) :
    FnOk P w K mg base CX0 6 f fd ["_law_length", "_law_stand"] spRef := by
  refine F.ok scRef (fun vs H Q E h => ?_) (fun cdv A outer s H vs Q E hr h => ?_)
  · obtain ⟨L, h, rfl, _⟩ := h
    rfl
  · obtain ⟨L, h, rfl, hL, hh, k⟩ := h
    refine ⟨_, pss_cons (ps_try_as (i := 2) (tb := fun W => tDrop (tCallS (spReach C) (WE W) (tCons (tVar 0) (tCons (tVar 1) tNil)))) (ts := fun a cls d => tIfS (tAnd (tTest (tIsD K C a cls d (tC (.ref C)))) (tAnd (tTest (tIsD K C a cls d (tC (.ty "ValueError")))) (tNot (tTest (tIsD K C a cls d (tC (.ref CN))))))) (tRet (tLst (tCons (tXf a cls d C "value" (tVar 2)) tNil))) tNext)
        (Wout := fun _ _ _ _ => False) rfl rfl scRef.nd rfl rfl ⟨rfl, by decide, Or.inl U.gB⟩ takes0
        (fun W pn xe tk _ => pss_one (ps_expr (by exact (pe_callS GF hr rfl T.reach kF bF (fun σ => passAt tk σ) (by exact (pa_cons (pv 0) (pa_cons (pv 1) pa_nil)))))))
        (fun a oe cls d pn hz hf => pss_one (ps_if (PW.pt (pw_and (pt_val (by exact (pe_callB (call_isD U.ex hz hf) (by rfl) U.isi (by decide +kernel) (pa_cons (pv 2) (pa_cons (pe_glob rfl R.g rfl) pa_nil)))))
            (pw_and (pt_val (by exact (pe_callB (call_isD U.ex hz hf) (by rfl) U.isi (by decide +kernel) (pa_cons (pv 2) (pa_cons (pe_bltn (v := .ty "ValueError") (by rfl) U.ve (by decide +kernel) rfl) pa_nil)))))
            (pw_and1 (pt_not (pt_val (by exact (pe_callB (call_isD U.ex hz hf) (by rfl) U.isi (by decide +kernel) (pa_cons (pv 2) (pa_cons (pe_glob rfl U.gN rfl) pa_nil))))))))))
          (pss_one (ps_ret (pe_lst (by exact (pa_cons (pe_xf R.xf R.no hz hf (pv 2)) pa_nil))))) pss_nil)))
      (pss_one (ps_ret (pe_lst pa_nil))), ?_⟩
    refine ⟨_, rfl, _, rfl, L, h, rfl, hL, hh, fun c d hd => ?_, fun c c2 d hd => ?_, fun c c2 r _ => ?_⟩
    · refine ⟨true, U.teB, fun _ a ha => ?_, fun z => Bool.noConfusion z⟩
      refine ⟨_, rfl, _, _, true, d, _, rfl, rfl, rfl, upd_same, fun u z => z, U.k1, true, rfl, if_t rfl ?_⟩
      refine ⟨_, rfl, _, _, true, d, _, rfl, rfl, rfl, upd_same, fun u z => z, U.k2, true, rfl, if_t rfl ?_⟩
      refine ⟨_, rfl, _, _, false, d, _, rfl, rfl, rfl, upd_same, fun u z => z, U.k3, false, rfl, if_t rfl ?_⟩
      refine ⟨_, rfl, rfl, rfl, d, _, _, rfl, upd_same, rfl, ?_⟩
      refine ⟨by show 1 ≤ sizeLine; decide, fun p hp => ?_⟩
      have np : p ≠ d := fun z => by
        rw [z, upd_same] at hp
        cases hp
      have hp0 : H p = none := by rw [upd_ne np] at hp; exact hp
      refine k p _ hp0 (fun b o e => ?_) ?_
      · rw [upd_ne (ne_of_none e hp0), upd_ne (ne_of_none e hd)]
        exact e
      · rw [if_pos c]
        exact upd_same
    · refine ⟨true, U.teB, fun _ a ha => ?_, fun z => Bool.noConfusion z⟩
      refine ⟨_, rfl, _, _, true, d, _, rfl, rfl, rfl, upd_same, fun u z => z, U.k1, true, rfl, if_t rfl ?_⟩
      refine ⟨_, rfl, _, _, true, d, _, rfl, rfl, rfl, upd_same, fun u z => z, U.k2, true, rfl, if_t rfl ?_⟩
      refine ⟨_, rfl, _, _, false, d, _, rfl, rfl, rfl, upd_same, fun u z => z, U.k3, false, rfl, if_t rfl ?_⟩
      refine ⟨_, rfl, rfl, rfl, d, _, _, rfl, upd_same, rfl, ?_⟩
      refine ⟨by show 1 ≤ sizeLine; decide, fun p hp => ?_⟩
      have np : p ≠ d := fun z => by
        rw [z, upd_same] at hp
        cases hp
      have hp0 : H p = none := by rw [upd_ne np] at hp; exact hp
      refine k p _ hp0 (fun b o e => ?_) ?_
      · rw [upd_ne (ne_of_none e hp0), upd_ne (ne_of_none e hd)]
        exact e
      · rw [if_neg (by omega), if_pos c2]
        exact upd_same
    · refine ⟨by show 0 ≤ sizeLine; decide, fun p hp => ?_⟩
      refine k p _ hp (fun b o e => ?_) ?_
      · rw [upd_ne (ne_of_none e hp)]
        exact e
      · rw [if_neg (by omega), if_neg (by omega)]
        exact upd_same
end
end Law

namespace Law
open PySem PySem.Spec PyProof.Rows L2 Sup
def spLaw (K : PySem.W.Frag) : Sp := fun vs H Q _ => ∃ (a : Addr) (ns : List Int), vs = [.ref a] ∧ SqL K H a (ns.map V.int) ∧ ns.length ≤ 63 ∧ ∀ H', Q (.bl true) H'
abbrev sizes : List V := [V.int 10, V.int (10 ^ (6 : Int).toNat), V.int (10 ^ (39 : Int).toNat)]
theorem draw_sizes {r : Int} (h0 : 0 ≤ r) (h3 : r < 3) : ∃ n : Int, atI sizes r = some (.int n) ∧ 0 < n ∧ n ≤ 10 ^ 39 := by
  have : r = 0 ∨ r = 1 ∨ r = 2 := by omega
  rcases this with rfl | rfl | rfl
  · exact ⟨10, rfl, by decide +kernel, by decide +kernel⟩
  · exact ⟨10 ^ (6 : Int).toNat, rfl, by decide +kernel, by decide +kernel⟩
  · exact ⟨10 ^ (39 : Int).toNat, rfl, by decide +kernel, by decide +kernel⟩
structure Txt (K : PySem.W.Frag) (mg : Str → Option Value) (fB fT fN fR : Addr) : Prop where
  box : mg "_law_box" = some (.ref fB)
  take : mg "_law_take" = some (.ref fT)
  num : mg "_law_number" = some (.ref fN)
  ref : mg "_law_refused" = some (.ref fR)
  bt : BoxTxt K mg
  nt : NumTxt mg
section
variable {P : Program} {w : World} {K : PySem.W.Frag} {mg : Str → Option Value} {base : Heap} {C : Addr}
theorem scLaw : FnScope ["_law_script", "_law_box_here", "_law_sizes", "_law_length", "_law_stand", "_law_way", "_law_told", "_law_plain", "_law_short", "_law_behind"] ["_law_script"] (defScope sLaw) := ⟨rfl, rfl, rfl, by decide +kernel, rfl, by decide +kernel, by decide +kernel⟩
theorem ok_law {f fK fF fB fT fN fR B CN : Addr} {fd fdK fdF fdB fdT fdN fdR : FuncData} {ds : List Value} (F : Fun K "law" "law" sLaw f fd) (R : ErrOk P w K mg base "BadNumber" C "value" okInt) (T : Txt K mg fB fT fN fR) (U : Calls_ mg fK fF) (V' : RefTxt K mg C B CN)
    (FK : Fun K "check_not_negative" "check_not_negative" sChk fK fdK) (bK : Binds K fdK ["number"] []) (FF : FunD K "reach" "reach" (defArgs sReach) (defBody sReach) (defScope sReach) [.int 0] [] fF fdF) (bF : Binds K fdF ["length", "foot"] [])
    (bF1 : Binds K fdF ["length", "foot"] ds) (vd1 : Vals [V.int 0] ds)
    (FB : Fun K "_law_box" "_law_box" sBox fB fdB) (bB : Binds K fdB ["_law_script"] []) (FT : Fun K "_law_take" "_law_take" sTake fT fdT) (bT : Binds K fdT ["_law_box_here", "_law_size"] [])
    (FN : Fun K "_law_number" "_law_number" sNum fN fdN) (bN : Binds K fdN ["_law_x"] []) (FR : Fun K "_law_refused" "_law_refused" sRef fR fdR) (bR : Binds K fdR ["_law_length", "_law_stand"] []) :
    FnOk P w K mg base CX0 7 f fd ["_law_script"] (spLaw K) := by
  have GF := ok_reach FF R FK bK U
  have GB : FnOk P w K mg base CX0 1 fB fdB ["_law_script"] (spBox K) := ok_box FB T.bt
  have GT : FnOk P w K mg base CX0 1 fT fdT ["_law_box_here", "_law_size"] spTake := ok_take FT T.bt
  have GN : FnOk P w K mg base CX0 1 fN fdN ["_law_x"] spNum := ok_num FN T.nt
  have GR : FnOk P w K mg base CX0 6 fR fdR ["_law_length", "_law_stand"] spRef := ok_ref FR R V' GF FF.kp bF U
  refine F.ok scLaw (fun vs H Q E h => ?_) (fun cdv A outer s H vs Q E hr h => ?_)
  · obtain ⟨a, ns, rfl, _⟩ := h
    rfl
  · obtain ⟨a, ns, rfl, hS, h63, k⟩ := h
    have hr1 : Room 1 _ := hr.mono (by decide)
    have hr5 : Room 5 _ := hr.mono (by decide)
    refine ⟨_, (pss_cons (ps_set (i := 1) scLaw.nd rfl (Or.inl rfl) (pe_call GB hr1 rfl T.box FB.kp bB .nil pass0 (pa_cons (pv 0) pa_nil)))
      (pss_cons (ps_set (i := 2) scLaw.nd rfl (Or.inl rfl) (pe_lst (pa_cons pe_int (pa_cons (pe_op op_pow pe_int pe_int) (pa_cons (pe_op op_pow pe_int pe_int) pa_nil)))))
      (pss_cons (ps_set (i := 3) scLaw.nd rfl (Or.inl rfl) (pe_call GT hr1 rfl T.take FT.kp bT .nil pass0 (pa_cons (pv 1) (pa_cons (pe_ix ix_list (pv 2) (pe_call GT hr1 rfl T.take FT.kp bT .nil pass0 (pa_cons (pv 1) (pa_cons pe_int pa_nil))) (fun _ _ => rfl)) pa_nil))))
      (pss_cons (ps_set (i := 4) scLaw.nd rfl (Or.inl rfl) (pe_call GT hr1 rfl T.take FT.kp bT .nil pass0 (pa_cons (pv 1) (pa_cons (pe_ix ix_list (pv 2) (pe_call GT hr1 rfl T.take FT.kp bT .nil pass0 (pa_cons (pv 1) (pa_cons pe_int pa_nil))) (fun _ _ => rfl)) pa_nil))))
      (pss_cons (ps_set (i := 5) scLaw.nd rfl (Or.inl rfl) (pe_call GT hr1 rfl T.take FT.kp bT .nil pass0 (pa_cons (pv 1) (pa_cons pe_int pa_nil))))
      (C8.pss_cut (ps_if (pt_cmpR op_eq (pv 5) pe_int (nomark _)) (pss_one (ps_set (i := 4) scLaw.nd rfl (Or.inl rfl) (pv 3))) pss_nil)
      (C8.pss_cut (ps_if (pt_cmpR op_eq (pv 5) pe_int (nomark _)) (pss_one (ps_set (i := 4) scLaw.nd rfl (Or.inl rfl) (pe_op op_add (pv 3) pe_int))) pss_nil)
      (C8.pss_cut (ps_if (pt_cmpR op_eq (pv 5) pe_int (nomark _)) (pss_cons (ps_set (i := 4) scLaw.nd rfl (Or.inl rfl) (pe_op op_mul pe_int (pv 3)))
      (pss_one (ps_set (i := 3) scLaw.nd rfl (Or.inl rfl) (pe_op op_mul pe_int (pv 3))))) pss_nil)
      (pss_cons (ps_set (i := 6) scLaw.nd rfl (Or.inl rfl) (pe_call (E := E0) GF hr5 rfl U.reach FF.kp bF .nil passL (pa_cons (pv 3) (pa_cons (pv 4) pa_nil))))
      (pss_cons (ps_if (pt_not (pt_val (pe_call GN hr1 rfl T.num FN.kp bN .nil pass0 (pa_cons (pv 6) pa_nil)))) (pss_one (ps_ret pe_bl)) pss_nil)
      (C8.pss_cut (ps_if (pt_cmpR op_gt (pv 4) (pv 3) (nomark _)) (pss_one (ps_if (pt_cmpR op_ne (pv 6) (pe_un un_neg pe_int) (nomark _)) (pss_one (ps_ret pe_bl)) pss_nil)) (pss_one (ps_if (PW.pt (pw_or (pt_cmpR op_lt (pv 6) pe_int (nomark _)) (pw_or1 (pt_cmpR op_gt (pe_op op_add (pe_op op_mulW (pv 6) (pv 6)) (pe_op op_mulW (pv 4) (pv 4))) (pe_op op_mulW (pv 3) (pv 3)) (nomark _))))) (pss_one (ps_ret pe_bl)) (pss_one (ps_if (pt_cmpR op_le (pe_op op_add (pe_op op_mulW (pe_op op_add (pv 6) pe_int) (pe_op op_add (pv 6) pe_int)) (pe_op op_mulW (pv 4) (pv 4))) (pe_op op_mulW (pv 3) (pv 3)) (nomark _)) (pss_one (ps_ret pe_bl)) pss_nil)))))
      (pss_cons (ps_set (i := 7) scLaw.nd rfl (Or.inl rfl) (pe_call (E := E0) GF hr5 rfl U.reach FF.kp bF1 vd1 passL (pa_cons (pv 3) pa_nil)))
      (pss_cons (ps_if (PW.pt (pw_or (pt_not (pt_val (pe_call GN hr1 rfl T.num FN.kp bN .nil pass0 (pa_cons (pv 7) pa_nil)))) (pw_or1 (pt_cmpR op_ne (pv 7) (pv 3) (nomark _))))) (pss_one (ps_ret pe_bl)) pss_nil)
      (pss_cons (ps_set (i := 8) scLaw.nd rfl (Or.inl rfl) (pe_op op_sub (pe_un un_neg pe_int) (pe_call GT hr1 rfl T.take FT.kp bT .nil pass0 (pa_cons (pv 1) (pa_cons (pe_op op_pow pe_int pe_int) pa_nil)))))
      (pss_cons (ps_set (i := 9) scLaw.nd rfl (Or.inl rfl) (pe_op op_sub (pe_un un_neg pe_int) (pe_call GT hr1 rfl T.take FT.kp bT .nil pass0 (pa_cons (pv 1) (pa_cons (pe_op op_pow pe_int pe_int) pa_nil)))))
      (pss_cons (ps_if (PW.pt (pw_or (pt_cmpR (op_neD hr.units) (pe_call GR hr rfl T.ref FR.kp bR .nil pass0 (pa_cons (pv 8) (pa_cons (pv 4) pa_nil))) (pe_lst (pa_cons (pv 8) pa_nil)) (nomark _)) (pw_or1 (pt_cmpR (op_neD hr.units) (pe_call GR hr rfl T.ref FR.kp bR .nil pass0 (pa_cons (pv 3) (pa_cons (pv 9) pa_nil))) (pe_lst (pa_cons (pv 9) pa_nil)) (nomark _))))) (pss_one (ps_ret pe_bl)) pss_nil)
      (pss_one (ps_ret (pe_and (pe_cmpR (op_eqD hr.units) (pe_call GR hr rfl T.ref FR.kp bR .nil pass0 (pa_cons (pv 8) (pa_cons (pv 9) pa_nil))) (pe_lst (pa_cons (pv 8) pa_nil)) (nomark _)) (pe_one (pe_cmpR (op_eqD hr.units) (pe_call GR hr rfl T.ref FR.kp bR .nil pass0 (pa_cons (pv 3) (pa_cons (pv 4) pa_nil))) (pe_lst pa_nil) (nomark _)))))))))))))))))))))), ?_⟩
    refine ⟨_, rfl, a, ns, rfl, hS, h63, fun b l H1 B1 nb nl s1 => ?_⟩
    refine ⟨_, _, rfl, rfl, pow_ok (by decide), _, _, rfl, rfl, pow_ok (by decide), (by show 3 ≤ sizeLine; decide), fun z hz => ?_⟩
    have nzb : z ≠ b := fun e => by
      obtain ⟨_, _, _, _, q, _⟩ := B1
      rw [e, q] at hz
      cases hz
    have nzl : z ≠ l := fun e => by
      obtain ⟨_, _, _, _, _, q, _⟩ := B1
      rw [e, q] at hz
      cases hz
    have B2 : Box (upd H1 z (.lst sizes)) b l := B1.keep fun c hc => by
      rcases hc with rfl | rfl
      · exact upd_ne (Ne.symm nzb)
      · exact upd_ne (Ne.symm nzl)
    refine ⟨_, rfl, _, rfl, _, rfl, b, l, _, rfl, B2, by decide, by decide, fun r1 H3 p1 q1 B3 k3 => ?_⟩
    have z3 : H3 z = some (.lst sizes) := (k3 z nzb).trans upd_same
    obtain ⟨n1, e1, n1p, n1m⟩ := draw_sizes p1 q1
    refine ⟨z, _, _, _, rfl, rfl, SqL.of z3, e1, b, l, _, rfl, B3, n1p, size_fit n1p (by omega), fun L H4 p2 q2 B4 k4 => ?_⟩
    have z4 := (k4 z nzb).trans z3
    refine ⟨_, rfl, _, rfl, _, rfl, b, l, _, rfl, B4, by decide, by decide, fun r2 H5 p3 q3 B5 k5 => ?_⟩
    have z5 := (k5 z nzb).trans z4
    obtain ⟨n2, e2, n2p, n2m⟩ := draw_sizes p3 q3
    refine ⟨z, _, _, _, rfl, rfl, SqL.of z5, e2, b, l, _, rfl, B5, n2p, size_fit n2p (by omega), fun h H6 p4 q4 B6 k6 => ?_⟩
    refine ⟨_, rfl, b, l, _, rfl, B6, by decide, by decide, fun way H7 p5 q5 B7 k7 => ?_⟩
    have hL : 0 ≤ L ∧ L < 10 ^ 39 := ⟨p2, by omega⟩
    have hh : 0 ≤ h ∧ h < 10 ^ 39 := ⟨p4, by omega⟩
    clear e1 e2 z3 z4 z5 k3 k4 k5 k6
    refine ⟨fun σ' H' => H7 = H' ∧ ∃ h' : Int, 0 ≤ h' ∧ h' < 10 ^ 39 ∧ σ' = [some (.ref a), some (.ref b), some (.ref z), some (.int L), some (.int h'), some (.int way), none, none, none, none], ?_, ?_⟩
    · refine ⟨_, rfl, rfl, _, rfl, ?_⟩
      exact ite2 (fun _ => ⟨_, rfl, rfl, L, hL.1, hL.2, rfl⟩) fun _ => ⟨rfl, h, hh.1, hh.2, rfl⟩
    rintro σ' H' ⟨rfl, h1, h1a, h1b, rfl⟩
    refine ⟨fun σ' H' => H7 = H' ∧ ∃ h' : Int, 0 ≤ h' ∧ h' ≤ 10 ^ 39 ∧ σ' = [some (.ref a), some (.ref b), some (.ref z), some (.int L), some (.int h'), some (.int way), none, none, none, none], ?_, ?_⟩
    · refine ⟨_, rfl, rfl, _, rfl, ?_⟩
      exact ite2 (fun _ => ⟨_, rfl, _, _, rfl, rfl, rfl, L + 1, by omega, by omega, rfl⟩) fun _ => ⟨rfl, h1, h1a, by omega, rfl⟩
    rintro σ' H' ⟨rfl, h2, h2a, h2b, rfl⟩
    refine ⟨fun σ' H' => H7 = H' ∧ ∃ L' h' : Int, 0 ≤ L' ∧ L' ≤ 10 ^ 40 ∧ 0 ≤ h' ∧ h' ≤ 10 ^ 40 ∧ σ' = [some (.ref a), some (.ref b), some (.ref z), some (.int L'), some (.int h'), some (.int way), none, none, none, none], ?_, ?_⟩
    · refine ⟨_, rfl, rfl, _, rfl, ?_⟩
      exact ite2 (fun _ => ⟨_, rfl, _, _, rfl, rfl, .inl ⟨by decide, by decide⟩, _, rfl, _, _, rfl, rfl, .inl ⟨by decide, by decide⟩, rfl, 5 * L, 3 * L, by omega, by omega, by omega, by omega, rfl⟩) fun _ => ⟨rfl, L, h2, by omega, by omega, by omega, by omega, rfl⟩
    rintro σ' H' ⟨rfl, M, g, M0, Mb, g0, gb, rfl⟩
    have sM : Sz M := Sz.of (by omega)
    have sg : Sz g := Sz.of (by omega)
    -- told
    refine ⟨_, rfl, _, rfl, M, g, rfl, sM, sg, fun z => by omega, fun _ z => by omega, fun _ _ r hr' => ?_⟩
    refine ⟨_, rfl, r, rfl, true, rfl, if_f rfl ?_⟩
    obtain ⟨f1, f3⟩ := hr'
    refine ⟨fun σ' H' => H7 = H' ∧ σ' = [some (.ref a), some (.ref b), some (.ref z), some (.int M), some (.int g), some (.int way), some (.int r), none, none, none], ?_, ?_⟩
    · refine ⟨_, rfl, _, rfl, _, _, rfl, rfl, _, rfl, ?_⟩
      by_cases c1 : M < g
      · refine if_t (decide_eq_true c1) ?_
        have er : r = -1 := f1 c1
        subst er
        refine ⟨_, rfl, _, rfl, rfl, _, rfl, ?_⟩
        exact if_f (by decide) ⟨rfl, rfl⟩
      · refine if_f (decide_eq_false c1) ?_
        obtain ⟨r0, ra, rb⟩ := f3 (by omega)
        have rM : r ≤ M := by
          refine Int.not_lt.mp fun c => ?_
          have h1 : (M + 1) * (M + 1) ≤ r * r := Int.mul_le_mul (by omega) (by omega) (by omega) r0
          have h2 : (M + 1) * (M + 1) = M * M + 2 * M + 1 := by grind
          have h3 : 0 ≤ g * g := Int.mul_nonneg g0 g0
          generalize M * M = m at *
          generalize g * g = n at *
          generalize r * r = q at *
          omega
        have sr : Sz r := Sz.of (by omega)
        have sr1 : (r + 1).natAbs < 2 ^ 300 := Sz.w (Sz.of (by omega))
        refine ⟨_, rfl, _, _, rfl, rfl, _, rfl, ?_⟩
        refine if_f (decide_eq_false (by omega)) ?_
        refine ⟨_, rfl, _, rfl, _, _, rfl, rfl, Sz.mul sr.w sr.w, _, rfl, _, rfl, _, _, rfl, rfl, Sz.mul sg.w sg.w, _, _, rfl, rfl, _, rfl, _, rfl, _, _, rfl, rfl, Sz.mul sM.w sM.w, _, _, rfl, rfl, _, rfl, ?_⟩
        refine if_f (decide_eq_false (by omega)) ?_
        refine ⟨_, rfl, _, _, rfl, rfl, _, rfl, _, _, rfl, rfl, _, _, rfl, rfl, Sz.mul sr1 sr1, _, rfl, _, rfl, _, _, rfl, rfl, Sz.mul sg.w sg.w, _, _, rfl, rfl, _, rfl, _, rfl, _, _, rfl, rfl, Sz.mul sM.w sM.w, _, _, rfl, rfl, _, rfl, ?_⟩
        exact if_f (decide_eq_false (by omega)) ⟨rfl, rfl⟩
    rintro σ' H' ⟨rfl, rfl⟩
    -- plain
    refine ⟨_, rfl, M, 0, rfl, sM, Sz.of (by decide), fun z => by omega, fun _ z => absurd z (by decide), fun _ _ r' hr' => ?_⟩
    obtain ⟨_, g3⟩ := hr'
    have er : r' = M := by
      obtain ⟨x1, x2, x3⟩ := g3 M0
      have y1 : r' ≤ M := by
        refine Int.not_lt.mp fun c => ?_
        have h1 : (M + 1) * (M + 1) ≤ r' * r' := Int.mul_le_mul (by omega) (by omega) (by omega) x1
        have h2 : (M + 1) * (M + 1) = M * M + 2 * M + 1 := by grind
        generalize M * M = m at *
        generalize r' * r' = q at *
        omega
      have y2 : M ≤ r' := by
        refine Int.not_lt.mp fun c => ?_
        have h1 : (r' + 1) * (r' + 1) ≤ M * M := Int.mul_le_mul (by omega) (by omega) (by omega) M0
        generalize M * M = m at *
        generalize (r' + 1) * (r' + 1) = q at *
        omega
      omega
    subst er
    refine ⟨_, rfl, r', rfl, true, rfl, if_f rfl ?_⟩
    refine ⟨_, rfl, _, rfl, rfl, _, rfl, if_f (by simp) ?_⟩
    -- two negative numbers
    refine ⟨_, rfl, _, rfl, _, _, rfl, rfl, pow_ok (by decide), b, l, _, rfl, B7, by decide, by decide, fun u H8 u0 u1 B8 k8 => ?_⟩
    refine ⟨_, _, rfl, rfl, ?_⟩
    refine ⟨_, rfl, _, rfl, _, _, rfl, rfl, pow_ok (by decide), b, l, _, rfl, B8, by decide, by decide, fun v H9 v0 v1 B9 k9 => ?_⟩
    refine ⟨_, _, rfl, rfl, ?_⟩
    have u2 : u < 10 ^ 6 := u1
    have v2 : v < 10 ^ 6 := v1
    have nu : -1 - u < 0 := by omega
    have nv : -1 - v < 0 := by omega
    have su : Sz (-1 - u) := Sz.of (by omega)
    have sv : Sz (-1 - v) := Sz.of (by omega)
    refine ⟨_, rfl, _, rfl, -1 - u, g, rfl, su, sg, fun p HA hp sA hA => ?_⟩
    rw [if_pos nu] at hA
    refine ⟨_, rfl, by show 1 ≤ sizeLine; decide, fun p2' hp2 => ?_⟩
    have npp : p ≠ p2' := ne_of_none hA hp2
    refine ⟨_, _, .lst (SqL.of (by rw [upd_ne npp]; exact hA)) (.cons (.int _) .nil), .lst (SqL.of upd_same) (.cons (.int _) .nil), rfl, rfl, false, congrArg (fun q => V.bl !q) (SeqAt.eqv_refl (.list [.int (-1 - u)]) rfl), if_f rfl ?_⟩
    refine ⟨_, rfl, _, rfl, r', -1 - v, rfl, sM, sv, fun p3 HB hp3 sB hB => ?_⟩
    rw [if_neg (by omega), if_pos nv] at hB
    refine ⟨_, rfl, by show 1 ≤ sizeLine; decide, fun p4' hp4 => ?_⟩
    have npp2 : p3 ≠ p4' := ne_of_none hB hp4
    refine ⟨_, _, .lst (SqL.of (by rw [upd_ne npp2]; exact hB)) (.cons (.int _) .nil), .lst (SqL.of upd_same) (.cons (.int _) .nil), rfl, rfl, false, congrArg (fun q => V.bl !q) (SeqAt.eqv_refl (.list [.int (-1 - v)]) rfl), if_f rfl ?_⟩
    refine ⟨_, rfl, _, rfl, -1 - u, -1 - v, rfl, su, sv, fun p5' HC hp5 sC hC => ?_⟩
    rw [if_pos nu] at hC
    refine ⟨_, rfl, by show 1 ≤ sizeLine; decide, fun p6' hp6 => ?_⟩
    have npp3 : p5' ≠ p6' := ne_of_none hC hp6
    refine ⟨_, _, .lst (SqL.of (by rw [upd_ne npp3]; exact hC)) (.cons (.int _) .nil), .lst (SqL.of upd_same) (.cons (.int _) .nil), rfl, rfl, true, congrArg V.bl (SeqAt.eqv_refl (.list [.int (-1 - u)]) rfl), if_t rfl ?_⟩
    refine ⟨_, rfl, _, rfl, r', g, rfl, sM, sg, fun p7' HD hp7 sD hD => ?_⟩
    rw [if_neg (by omega), if_neg (by omega)] at hD
    refine ⟨by show 0 ≤ sizeLine; decide, fun p8' hp8 => ?_⟩
    have npp4 : p7' ≠ p8' := ne_of_none hD hp8
    refine ⟨_, _, .lst (SqL.of (by rw [upd_ne npp4]; exact hD)) .nil, .lst (SqL.of upd_same) .nil, rfl, rfl, ?_⟩
    exact k _

end
end Law

namespace Law
open PySem PySem.Spec PyProof.Rows L2 Sup NdefX

theorem all_mk {P : Program} {w : World} {K : PySem.W.Frag} {h : Heap} {mg : Str → Option Value} {fa : Addr} (X : K.In h) (G : h.Ns mainGlobals mg) (hfa : mg "law" = some (.ref fa)) (htop : (P.main.scope.names.lookup ("super" : Str)).isSome = false)
    {fK : Addr} {odK anK : Option Addr} {slK : Array (Option Value)} {ocK kVK dcK pmK cdK ctK : Value}
    {fF : Addr} {odF anF : Option Addr} {slF : Array (Option Value)} {ocF kVF dcF pmF cdF ctF : Value}
    {DTF : Addr} {xoF : Value} {xdF : Option Addr} {xsF : Array (Option Value)} {xnF : Nat} {tkF : Tok}
    {fB : Addr} {odB anB : Option Addr} {slB : Array (Option Value)} {ocB kVB dcB pmB cdB ctB : Value}
    {fT : Addr} {odT anT : Option Addr} {slT : Array (Option Value)} {ocT kVT dcT pmT cdT ctT : Value}
    {fN : Addr} {odN anN : Option Addr} {slN : Array (Option Value)} {ocN kVN dcN pmN cdN ctN : Value}
    {fR : Addr} {odR anR : Option Addr} {slR : Array (Option Value)} {ocR kVR dcR pmR cdR ctR : Value}
    {fL : Addr} {odL anL : Option Addr} {slL : Array (Option Value)} {ocL kVL dcL pmL cdL ctL : Value}
    {CE BE fiE cdE ccE NE : Addr} {nmE qE : Str} {bsE : List Value} {snE : List Str} {subE : List Value} {abE : Bool} {colE : Option Bool} {ddE : Option Addr} {m0E m1E m2E m3E m5E : Option Value}
    {odE anE dkE deE : Option Addr} {slE skE seE : Array (Option Value)} {ocE kVE dcE pmE ctE ckE ceE : Value} {vkE : Array Value} {flE : Str} {tfE : Tok}
    {LE BN : Addr}
    (aK : PySem.W.nsIn K mainGlobals "check_not_negative" = some (some (.ref fK)))
    (lK : K.lookup fK = some ⟨ocK, odK, .func (PySem.W.fnOf "check_not_negative" "check_not_negative" (defArgs sChk) (defBody sChk) (defScope sChk) .none kVK dcK pmK anK cdK ctK), slK⟩)
    (cK : PySem.W.codeIn K cdK "check_not_negative" = true)
    (kK : PySem.W.keepIn K (.ref fK) = true)
    (aF : PySem.W.nsIn K mainGlobals "reach" = some (some (.ref fF)))
    (lF : K.lookup fF = some ⟨ocF, odF, .func (PySem.W.fnOf "reach" "reach" (defArgs sReach) (defBody sReach) (defScope sReach) (.ref DTF) kVF dcF pmF anF cdF ctF), slF⟩)
    (cF : PySem.W.codeIn K cdF "reach" = true)
    (kF : PySem.W.keepIn K (.ref fF) = true)
    (dF : K.lookup DTF = some ⟨xoF, xdF, .seq #[.int 0 tkF] xnF, xsF⟩)
    (aB : PySem.W.nsIn K mainGlobals "_law_box" = some (some (.ref fB)))
    (lB : K.lookup fB = some ⟨ocB, odB, .func (PySem.W.fnOf "_law_box" "_law_box" (defArgs sBox) (defBody sBox) (defScope sBox) .none kVB dcB pmB anB cdB ctB), slB⟩)
    (cB : PySem.W.codeIn K cdB "_law_box" = true)
    (kB : PySem.W.keepIn K (.ref fB) = true)
    (aT : PySem.W.nsIn K mainGlobals "_law_take" = some (some (.ref fT)))
    (lT : K.lookup fT = some ⟨ocT, odT, .func (PySem.W.fnOf "_law_take" "_law_take" (defArgs sTake) (defBody sTake) (defScope sTake) .none kVT dcT pmT anT cdT ctT), slT⟩)
    (cT : PySem.W.codeIn K cdT "_law_take" = true)
    (kT : PySem.W.keepIn K (.ref fT) = true)
    (aN : PySem.W.nsIn K mainGlobals "_law_number" = some (some (.ref fN)))
    (lN : K.lookup fN = some ⟨ocN, odN, .func (PySem.W.fnOf "_law_number" "_law_number" (defArgs sNum) (defBody sNum) (defScope sNum) .none kVN dcN pmN anN cdN ctN), slN⟩)
    (cN : PySem.W.codeIn K cdN "_law_number" = true)
    (kN : PySem.W.keepIn K (.ref fN) = true)
    (aR : PySem.W.nsIn K mainGlobals "_law_refused" = some (some (.ref fR)))
    (lR : K.lookup fR = some ⟨ocR, odR, .func (PySem.W.fnOf "_law_refused" "_law_refused" (defArgs sRef) (defBody sRef) (defScope sRef) .none kVR dcR pmR anR cdR ctR), slR⟩)
    (cR : PySem.W.codeIn K cdR "_law_refused" = true)
    (kR : PySem.W.keepIn K (.ref fR) = true)
    (aL : PySem.W.nsIn K mainGlobals "law" = some (some (.ref fL)))
    (lL : K.lookup fL = some ⟨ocL, odL, .func (PySem.W.fnOf "law" "law" (defArgs sLaw) (defBody sLaw) (defScope sLaw) .none kVL dcL pmL anL cdL ctL), slL⟩)
    (cL : PySem.W.codeIn K cdL "law" = true)
    (kL : PySem.W.keepIn K (.ref fL) = true)
    (opq : PySem.W.nsIn K cStatics "thirdparty.any" = some none)
    (nsup : PySem.W.nsIn K mainGlobals "super" = some none)
    (aE : PySem.W.nsIn K mainGlobals "BadNumber" = some (some (.ref CE)))
    (xE : K.lookup CE = some (excClassObj nmE qE CE NE bsE [.ref BE, .type "ValueError", .type "Exception", .type "BaseException", .type "object"] true snE subE abE colE ddE m0E m1E m2E m3E m5E "ValueError.__new__"))
    (saE : PySem.W.findIn K (.ref CE) "__setattr__" = some (some (.builtin "object.__setattr__")))
    (gaE : PySem.W.findIn K (.ref CE) "__getattribute__" = some (some (.builtin "BaseException.__getattribute__")))
    (ggE : PySem.W.findIn K (.ref CE) "__getattr__" = some none)
    (nbE : PySem.W.findIn K (.ref CE) "value" = some none)
    (iE : PySem.W.findIn K (.ref CE) "__init__" = some (some (.ref fiE)))
    (tE : PySem.W.typeIn K (.ref fiE) = some (.type "function"))
    (lE : K.lookup fiE = some ⟨ocE, odE, .func (PySem.W.fnX "__init__" "BadNumber.__init__" (defArgs sErr) (defBody sErr) (defScope sErr) [("__class__", ccE)] .none kVE dcE pmE anE (.ref cdE) ctE), slE⟩)
    (coE : PySem.W.codeIn K (.ref cdE) "BadNumber.__init__" = true)
    (lkE : K.lookup cdE = some ⟨ckE, dkE, .fields vkE, skE⟩)
    (vkEx : vkE[2]? = some (.str flE tfE))
    (feE : ((P.main.file : Str) == flE) = true)
    (leE : K.lookup ccE = some ⟨ceE, deE, .cell (some (.ref CE)), seE⟩)
    (mrE : PySem.W.mroIn K CE (.ref CE) = some true)
    (upE : PySem.W.ks_superIn K CE CE "__init__" = some (some (.builtin "ValueError.__init__")))
    (svE : PySem.W.subIn K (.ref CE) (.type "ValueError") = some true)
    (kcE : PySem.W.keepIn K (.ref CE) = true)
    (ebE : PySem.W.subIn K (.ref CE) (.type "BaseException") = some true)
    (tyE : PySem.W.typeIn K (.ref CE) = some (.type "type"))
    (hdE : PySem.W.hasDictIn K CE = true)
    (ssE : PySem.W.subIn K (.ref CE) (.ref CE) = some true)
    (n_len : PySem.W.nsIn K mainGlobals "len" = some none)
    (n_int : PySem.W.nsIn K mainGlobals "int" = some none)
    (n_isinstance : PySem.W.nsIn K mainGlobals "isinstance" = some none)
    (n_bool : PySem.W.nsIn K mainGlobals "bool" = some none)
    (n_ValueError : PySem.W.nsIn K mainGlobals "ValueError" = some none)
    (g_isqrt : PySem.W.nsIn K mainGlobals "isqrt" = some (some (.builtin "math.isqrt")))
    (xha : PySem.W.findIn K (.ref CE) "__class__" = some (some (.builtin "object.__class__")))
    (xhn : PySem.W.specialIn K (.builtin "object.__class__") "__get__" = some (some (.builtin "getset_descriptor.__get__")))
    (xht : PySem.W.takesIn K (.builtin "object.__class__") = some true)
    (xhm : PySem.W.mroIn K CE (.type "object") = some true)
    (aLE : PySem.W.nsIn K mainGlobals "LadderError" = some (some (.ref LE)))
    (aBN : PySem.W.nsIn K mainGlobals "BadName" = some (some (.ref BN)))
    (ebL : PySem.W.subIn K (.ref LE) (.type "BaseException") = some true)
    (hdL : PySem.W.hasDictIn K LE = true)
    (tyL : PySem.W.typeIn K (.ref LE) = some (.type "type"))
    (ssL : PySem.W.subIn K (.ref CE) (.ref LE) = some true)
    (kt1 : PySem.W.kitOne K (.ref CE) (.ref CE) = some true)
    (kt2 : PySem.W.kitOne K (.ref CE) (.type "ValueError") = some true)
    (kt3 : PySem.W.kitOne K (.ref CE) (.ref BN) = some false) :
    ∃ fd : FuncData, (∀ (s : Shared) (v : Value), BindsTo s fd ⟨[v], []⟩ [("_law_script", v)]) ∧ ∀ base : Heap, K.In base → base.Ns mainGlobals mg → FnOk P w K mg base CX0 7 fa fd ["_law_script"] (spLaw K) := by
  have e := hfa.symm.trans (PySem.W.mg_of X G aL)
  cases e
  have FK := fun_mk (st := sChk) lK cK kK
  have bK := FK.binds (ps := ["number"]) fun _ _ _ _ _ _ us hl => match us, hl with | [_], _ => rfl
  have FF : FunD K "reach" "reach" (defArgs sReach) (defBody sReach) (defScope sReach) [.int 0] [] fF _ := ⟨⟨ocF, odF, .ref DTF, kVF, dcF, pmF, anF, cdF, ctF, slF, rfl, lF, cF, .inr ⟨by simp, DTF, _, [.int 0 tkF], xnF, rfl, dF, rfl, .cons (⟨_, rfl⟩) (.nil)⟩, .inl rfl⟩, kF⟩
  obtain ⟨dsF0, vdF0, bF0⟩ := FF.binds1 (ps := ["length", "foot"]) 1 0 (by simp) (by decide) fun T kV doc pm an cdv ct us its hu hi => match us, hu, its, hi with | [_], _, [_], _ => ⟨_, rfl, rfl⟩
  obtain ⟨dsF1, vdF1, bF1⟩ := FF.binds1 (ps := ["length", "foot"]) 2 1 (by simp) (by decide) fun T kV doc pm an cdv ct us its hu hi => match us, hu, its, hi with | [_, _], _, [_], _ => ⟨_, rfl, rfl⟩
  cases vdF1
  have FB := fun_mk (st := sBox) lB cB kB
  have bB := FB.binds (ps := ["_law_script"]) fun _ _ _ _ _ _ us hl => match us, hl with | [_], _ => rfl
  have FT := fun_mk (st := sTake) lT cT kT
  have bT := FT.binds (ps := ["_law_box_here", "_law_size"]) fun _ _ _ _ _ _ us hl => match us, hl with | [_, _], _ => rfl
  have FN := fun_mk (st := sNum) lN cN kN
  have bN := FN.binds (ps := ["_law_x"]) fun _ _ _ _ _ _ us hl => match us, hl with | [_], _ => rfl
  have FR := fun_mk (st := sRef) lR cR kR
  have bR := FR.binds (ps := ["_law_length", "_law_stand"]) fun _ _ _ _ _ _ us hl => match us, hl with | [_, _], _ => rfl
  have FL := fun_mk (st := sLaw) lL cL kL
  have bL := FL.binds (ps := ["_law_script"]) fun _ _ _ _ _ _ us hl => match us, hl with | [_], _ => rfl
  have OE : OexC K CE := ⟨⟨nmE, qE, NE, bsE, _, snE, subE, abE, colE, ddE, m0E, m1E, m2E, m3E, m5E, xE, by rfl⟩, saE, ebE, tyE, kcE⟩
  have TE : ErrTxt P K mg CE fiE cdE ccE "BadNumber.__init__" sErr := {
    oex := OE
    iC := iE
    tI := tE
    fn := ⟨_, _, _, _, _, _, _, _, lE⟩
    code := coE
    file := ⟨_, vkE, flE, tfE, lkE, rfl, vkEx, feE⟩
    cell := ⟨_, leE, rfl⟩
    self := mrE
    opaque_ := opq
    up := upE
    isVE := svE
    top := htop
    noSup := PySem.W.mg_none_of X G nsup }
  have RE : ∀ base, ErrOk P w K mg base "BadNumber" CE "value" okInt := fun base => by
    obtain ⟨fd, hfd, hb⟩ := err_int (w := w) (base := base) TE rfl rfl (nscope_by (by decide +kernel)) (fun _ _ _ _ _ _ _ us hl => match us, hl with | [_, _], _ => rfl) rfl rfl rfl (by decide) (by decide) (by decide) nbE
    exact ⟨OE, ⟨gaE, ggE, ebE, hdE⟩, PySem.W.mg_of X G aE, nbE, PySem.W.exm_ref ebE hdE tyE ssE, ⟨_, fd, iE, tE, hfd, hb⟩⟩
  exact ⟨PySem.W.fnOf "law" "law" (defArgs sLaw) (defBody sLaw) (defScope sLaw) .none kVL dcL pmL anL cdL ctL, fun s v => .of_eq rfl, fun base _ _ => ok_law FL (RE base) { box := PySem.W.mg_of X G aB, take := PySem.W.mg_of X G aT, num := PySem.W.mg_of X G aN, ref := PySem.W.mg_of X G aR, bt := ⟨PySem.W.mg_none_of X G n_len, PySem.W.mg_none_of X G n_int⟩, nt := ⟨PySem.W.mg_none_of X G n_isinstance, PySem.W.mg_none_of X G n_int, PySem.W.mg_none_of X G n_bool⟩ } ⟨PySem.W.mg_of X G aK, PySem.W.mg_of X G aF, PySem.W.mg_of X G g_isqrt⟩
      { ex := ⟨gaE, ggE, ebE, hdE, xha, xhn, xht, xhm⟩, gB := PySem.W.mg_of X G aLE, gN := PySem.W.mg_of X G aBN, isi := PySem.W.mg_none_of X G n_isinstance, ve := PySem.W.mg_none_of X G n_ValueError, teB := PySem.W.exm_ref ebL hdL tyL ssL, k1 := kt1, k2 := kt2, k3 := kt3 }
      FK bK FF bF1 bF0 vdF0 FB bB FT bT FN bN FR bR⟩
theorem walk {l : PySem.W.OpenLaw} {q : Program} {loose : List Str} {XP : (Str → Option Value) → Heap → Prop} {YP : World → Heap → Prop} {d : DefRec} {K : Params → PySem.W.Frag} (hn : l.most = some 63) (hdf : d.params.defaults = [])
    (hY : ∀ (w : World) (h : Heap), YP w h → (K w.params).In h)
    (F : ∀ (w : World) (mg : Str → Option Value) (fa : Addr) (h : Heap), (K w.params).In h → h.Ns mainGlobals mg → mg d.name = some (.ref fa) →
      ∃ fd : FuncData, (∀ (s : Shared) (u : Value), BindsTo s fd ⟨[u], []⟩ [("_law_script", u)]) ∧ ∀ base : Heap, (K w.params).In base → base.Ns mainGlobals mg → FnOk l.prog w (K w.params) mg base CX0 7 fa fd ["_law_script"] (spLaw (K w.params))) :
    PySem.W.WalkO q loose XP YP l.row.toRowW d [] (fun f vs => PySem.call f vs) :=
  L2.walk_of (n := 63) (k := 7) (x := "_law_script") (CX := fun _ => CX0) (sp := fun w => spLaw (K w.params)) hn (by decide) hdf ⟨rfl, by decide, by decide⟩ hY F (fun _ _ a ns hl _ hS => ⟨a, ns, rfl, hS, hl, fun _ => rfl⟩) fun _ _ _ _ _ z => z
end Law

open PySem PySem.W PyProof.Rows
set_option maxRecDepth 100000 in
set_option maxHeartbeats 0 in
theorem PySem.Challenge.cw_rungbounds_k01_reach_of_a_ladder_holds : PySem.Challenge.rw_rungbounds_k01_reach_of_a_ladder.Holds := by
  w_on; o_law; k_head; (case hw => w_witness2)
  k_fill
  refine Law.walk (l := PySem.Challenge.rw_rungbounds_k01_reach_of_a_ladder) rfl rfl (fun w h Y => PySem.W.kIn_of Y) ?F
  case F =>
    intro w mg fa h KX G hmg
    refine' Law.all_mk KX G hmg (by rfl) ?aK ?lK ?cK ?kK ?aF ?lF ?cF ?kF ?dF ?aB ?lB ?cB ?kB ?aT ?lT ?cT ?kT ?aN ?lN ?cN ?kN ?aR ?lR ?cR ?kR ?aL ?lL ?cL ?kL ?opq ?nsup ?aE ?xE ?saE ?gaE ?ggE ?nbE ?iE ?tE ?lE ?coE ?lkE ?vkEx ?feE ?leE ?mrE ?upE ?svE ?kcE ?ebE ?tyE ?hdE ?ssE ?n_len ?n_int ?n_isinstance ?n_bool ?n_ValueError ?g_isqrt ?xha ?xhn ?xht ?xhm ?aLE ?aBN ?ebL ?hdL ?tyL ?ssL ?kt1 ?kt2 ?kt3
    (case aK => k_is)
    (case lK => k_is)
    (case cK => k_is)
    (case kK => k_is)
    (case aF => k_is)
    (case lF => k_is)
    (case cF => k_is)
    (case kF => k_is)
    (case dF => k_is)
    (case aB => k_is)
    (case lB => k_is)
    (case cB => k_is)
    (case kB => k_is)
    (case aT => k_is)
    (case lT => k_is)
    (case cT => k_is)
    (case kT => k_is)
    (case aN => k_is)
    (case lN => k_is)
    (case cN => k_is)
    (case kN => k_is)
    (case aR => k_is)
    (case lR => k_is)
    (case cR => k_is)
    (case kR => k_is)
    (case aL => k_is)
    (case lL => k_is)
    (case cL => k_is)
    (case kL => k_is)
    (case opq => k_is)
    (case nsup => k_is)
    (case aE => k_is)
    (case xE => k_is)
    (case saE => k_is)
    (case gaE => k_is)
    (case ggE => k_is)
    (case nbE => k_is)
    (case iE => k_is)
    (case tE => k_is)
    (case lE => k_is)
    (case coE => k_is)
    (case lkE => k_is)
    (case vkEx => rfl)
    (case feE => decide +kernel)
    (case leE => k_is)
    (case mrE => k_is)
    (case upE => first | ks_is | rfl)
    (case svE => k_is)
    (case kcE => k_is)
    (case ebE => k_is)
    (case tyE => k_is)
    (case hdE => k_is)
    (case ssE => first | rfl | k_is)
    (case n_len => k_is)
    (case n_int => k_is)
    (case n_isinstance => k_is)
    (case n_bool => k_is)
    (case n_ValueError => k_is)
    (case g_isqrt => k_is)
    (case xha => k_is)
    (case xhn => first | k_is | rfl)
    (case xht => first | k_is | rfl)
    (case xhm => k_is)
    (case aLE => k_is)
    (case aBN => k_is)
    (case ebL => k_is)
    (case hdL => k_is)
    (case tyL => k_is)
    (case ssL => k_is)
    (case kt1 => first | k_is | rfl | kernel_rfl)
    (case kt2 => first | k_is | rfl | kernel_rfl)
    (case kt3 => first | k_is | rfl | kernel_rfl)
