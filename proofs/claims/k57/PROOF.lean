import PyProof.Rows.All
import Wide.All
import OpenK.AllK
import Wide.FinOn
import HandS.ForMost
import HandS.Wide
import HandS.ExcInit
import HandS.FStr
import HandS.Nested
import HandS.TryOnly
import HandS.ExcField
import HandS.WordsExc
import HandS.IsInst
import HandS.Codes
import HandS.Gcd
import HandS.Star
import HandS.ClsMeth
import KE.KTupSum
import HandS.Defaults
import HandS.ExcIs
import KE.KExcSuper
import KE.KMathG
import HandS.FStrTup
import HandS.DeepEq
import PyProof.ReprReads
import PySem.Challenge.RW_rungbounds_k57_errors_and_their_fields
set_option Elab.async false
set_option linter.all false
set_option maxRecDepth 100000
set_option maxHeartbeats 4000000
/-! Errors whose making calls super().__init__ on a text, then keeps a field. -/
namespace Sup
open PySem PySem.Spec PyProof.Rows L2 NdefX

abbrev mwrap (x : Addr) : Obj := PySem.W.kxs_mw "ValueError.__init__" x

/-- the wrapper of ValueError.__init__ bound to a, called -/
theorem call_wrap {prog : Program} {w : World} {A : Around} {E : Value → Shared → Prop} {h : Heap} {g : Array GenState} {d : Drawn} {t : Nat} {os : OsState}
    {nm q : Str} {C N : Addr} {bs bm : List Value} {hd : Bool} {sn : List Str} {sub : List Value} {ab : Bool} {col : Option Bool} {dd : Option Addr} {k0 k1 k2 k3 k5 : Option Value}
    {u a t0 : Addr} {us : List Value} {Q : Value → Shared → Prop}
    (hC : h.get? C = some (excClassObj nm q C N bs bm hd sn sub ab col dd k0 k1 k2 k3 k5 "ValueError.__new__"))
    (ha : h.get? a = some (PySem.HandSPX.excO C t0)) (hu : h.get? u = some (mwrap a)) (hl : us.length ≤ sizeLine)
    (hq : ∀ h' t1, (∀ b o, b ≠ a → h.get? b = some o → h'.get? b = some o) → h'.get? a = some (PySem.HandSPX.excO C t1) → Q .none ⟨h', g, d, t, os⟩) :
    wpAny (model prog w) A (call (.ref u) us) Q E ⟨h, g, d, t, os⟩ := by
  have FB := F.excBase_ValueError
  refine wpAny_call (codeAny_of_tree ?_)
  show wpAny _ A.in1 (callAny (.ref u) ⟨us, []⟩) _ _ _
  unfold callAny
  refine wpAny_bind (wpAny_load hu ?_)
  have k1' : (Value.type "method-wrapper" == Value.type "method" || Value.type "method-wrapper" == Value.type "builtin_function_or_method" || Value.type "method-wrapper" == Value.type "method-wrapper") = true := by decide
  simp only [mwrap, PySem.W.kxs_mw, k1', if_true]
  refine PySem.W.KFB.if_so (by decide) ?_
  refine wpAny_bind (PySem.W.check_bound_init FB.toExcCallFacts hC ha rfl ?_)
  refine wpAny_bind (wpAny_pure (wpAny_pure ?_))
  refine ⟨plainId_quiet FB.init.plain _, codeAny_builtin FB.initEntry ?_⟩
  exact PySem.W.exc_init_tree (cls := .ref C) (t0 := t0) (dv := none) (c2 := .none) (c3 := .none) (b4 := .bool false) ha hl fun h' k e _ => hq h' _ k e

/-- what the written part says of an own error's class at C and its __init__ at f -/
structure ErrTxt (P : Program) (K : PySem.W.Frag) (mg : Str → Option Value) (C f cda cc : Addr) (qual : Str) (st : Stmt) : Prop where
  oex : OexC K C
  iC : PySem.W.findIn K (.ref C) "__init__" = some (some (.ref f))
  tI : PySem.W.typeIn K (.ref f) = some (.type "function")
  fn : ∃ (oc : Value) (od an : Option Addr) (kV doc pm ct : Value) (osl : Array (Option Value)),
    K.lookup f = some ⟨oc, od, .func (PySem.W.fnX "__init__" qual (defArgs st) (defBody st) (defScope st) [("__class__", cc)] .none kV doc pm an (.ref cda) ct), osl⟩
  code : PySem.W.codeIn K (.ref cda) qual = true
  file : ∃ (o : Obj) (vs : Array Value) (fl : Str) (tf : Tok), K.lookup cda = some o ∧ o.data = .fields vs ∧ vs[2]? = some (.str fl tf) ∧ ((P.main.file : Str) == fl) = true
  cell : ∃ (o : Obj), K.lookup cc = some o ∧ o.data = .cell (some (.ref C))
  self : PySem.W.mroIn K C (.ref C) = some true
  opaque_ : PySem.W.nsIn K cStatics "thirdparty.any" = some none
  up : PySem.W.ks_superIn K C C "__init__" = some (some (.builtin "ValueError.__init__"))
  isVE : PySem.W.subIn K (.ref C) (.type "ValueError") = some true
  top : (P.main.scope.names.lookup ("super" : Str)).isSome = false
  noSup : mg "super" = none

section
variable {X : Cx} {pins : List (Addr × Obj)} {σ : L2.St} {H : Hp} {s : Shared} {a C f cda cc : Addr} {qual : Str} {st : Stmt} {e : Expr} {te : TE} {body : List Stmt} {p0 p1 p2 p3 : Pos} {Q : Hp → Prop} {scope : Scope} {ar : Arg}
theorem super_init (T : ErrTxt X.prog X.K X.mg C f cda cc qual st) (I : Inv X pins σ H s)
    (henv : X.env = PySem.W.envX qual scope X.env.locals f (.ref cda) [("__class__", cc)])
    (hks : scope.names.lookup ("super" : Str) = some .globalImplicit) (hkc : scope.names.lookup ("__class__" : Str) = some .free)
    (hks' : scope.names.lookup ar.arg = some .local)
    (har : ((defArgs st).posonlyargs ++ (defArgs st).args).head? = some ar)
    (h0 : X.N[0]? = some ar.arg) (hs0 : σ[0]? = some (some (V.ref a))) (ha : H a = some (exo a C none))
    (he : PE X e te) (hq : te σ H fun x H1 => [x].length ≤ 1 ∧ H1 a = some (exo a C none) ∧ Q H1) {pl : Sem Bool}
    (hform : eval (.Call (.Attribute (.Call (.Name "super" p0) [] [] p1) "__init__" p2) [e] [] p3) X.env = (do
      let ov ← attributeBase (.Call (.Name "super" p0) [] [] p1) "__init__" X.env (eval (.Call (.Name "super" p0) [] [] p1) X.env)
      standAt p2.atName
      let (g, first) ← holding [ov] (getMethod ov "__init__" pl)
      callWith p3 g first (backTo p3 (starEach [e] X.env)) []) := by rfl)
    (hse : starEach [e] X.env = (false, eval e X.env) :: starEach [] X.env := by rfl) :
    _root_.PySem.wpAt (model X.prog X.w) X.A (.func body X.env) (eval (.Call (.Attribute (.Call (.Name "super" p0) [] [] p1) "__init__" p2) [e] [] p3) X.env)
      (fun _ s' => ∃ H', Inv X pins σ H' s' ∧ Q H') X.xe s := by
  have kS : X.env.kindOf "super" = some .globalImplicit := by rw [henv]; exact hks
  have kC : X.env.kindOf "__class__" = some .free := by rw [henv]; exact hkc
  have kA : X.env.kindOf ar.arg = some .local := by rw [henv]; exact hks'
  have cL : X.env.cells.lookup ("__class__" : Str) = some cc := by rw [henv]; rfl
  have fL : X.env.func = some f := by rw [henv]
  have dL : X.env.code = .ref cda := by rw [henv]
  obtain ⟨nm, q, N, bs, bm, sn, sub, ab, col, dd, k0, k1, k2, k3, k5, hC, hbm⟩ := T.oex.cls
  have hcl : PySem.W.clsIn X.K C = some { name := nm, bases := bs, mro := .ref C :: bm, ns := N, qualname := q, hasDict := true, slotNames := sn, subclasses := sub, abstract := ab, collection := col, hasDel := false } := by
    unfold PySem.W.clsIn; rw [hC] <;> rfl
  obtain ⟨oc, od, an, kV, doc, pm, ct, osl, lf⟩ := T.fn
  obtain ⟨oF, vs, fl, tf, lc, hvf, hv2, hfl⟩ := T.file
  obtain ⟨oc2, lcell, dcell⟩ := T.cell
  obtain ⟨t1, hga⟩ := exo_at I.hok ha
  refine ks_wpAt_MethodCall (o := .Call (.Name "super" p0) [] [] p1) (name := "__init__") (apos := p2) (pos := p3) (args := [e]) (env := X.env) ?_ hform
  refine ks_wpAt_super_base (env := X.env) (cc := cda) (ar := ar) kS kC (by decide) fL (I.kIn _ _ lf) rfl har dL (I.kIn _ _ lc) hvf hv2 hfl T.top ?_
  -- the name super
  obtain ⟨mb, hb1, hb2⟩ := I.mod.blt
  refine PySem.W.ks_loadName_global I.ok.kind kS (Calls.loadGlobal_builtin (v := .type "super") (by rw [I.ok.glob]; exact I.mod.glob.keeps I.bk) T.noSup
    (by rw [I.ok.blt]; exact hb1.keeps I.bk) ((hb2 _ (by decide)).trans (by decide +kernel)) ⟨rfl, ?_⟩)
  -- the cell __class__
  refine wpAny_loadName_free I.ok.kind kC cL (v := .ref C) ⟨_, I.kIn _ _ lcell, dcell⟩ ?_
  -- self
  obtain ⟨m, hn, hlm⟩ := I.loc
  obtain ⟨u, ru, hlook⟩ := hlm 0 ar.arg (V.ref a) h0 hs0 (.inl (by rw [henv]; exact hks'))
  obtain rfl : u = Value.ref a := ru
  have hma : m ar.arg = some (Value.ref a) := by
    rcases hlook with ⟨_, z⟩ | ⟨z, _⟩
    · exact z
    · rw [kA] at z
      rcases z with z | z <;> cases z
  refine wpAny_loadName_local I.ok.kind kA hn hma ?_
  have gC := I.kIn _ _ hC
  refine ks_wpAny_isType_cls gC rfl ⟨rfl, ?_⟩
  obtain ⟨hp, g, d, t, os⟩ := s
  refine ks_wpAny_call_super gC rfl hga rfl (fun c z => by cases z) (PySem.W.looks_mroIn I.kIn T.self) fun h1 e1 k1 => ?_
  have J1 : Inv X pins σ H ⟨h1, g, d, t, os⟩ := I.kept (t' := t) k1
  have I1 : PySem.W.InstAt h1 a (PySem.HandSPX.excO C t1) C none := ⟨k1 _ _ hga, rfl, rfl, trivial⟩
  have hup := T.up
  unfold PySem.W.ks_superIn at hup
  rw [hcl] at hup
  refine PySem.W.kxs_getMethod PySem.W.kxs_ValueError e1 (PySem.W.looks_opaque J1.kIn T.opaque_)
    (fun A' Q' E' s' k q => wpAny_bind ((PySem.W.looks_clsIn J1.kIn hcl) A' _ E' s' k (wpAny_pure q))) rfl J1.kIn hup
    (I1.type.andThen (PySem.W.looks_subIn J1.kIn T.isVE)) (PySem.W.ks_ne J1.kIn I1 hcl) (by decide) ?_
  have gu : (h1.push (mwrap a)).get? h1.objs.size = some (mwrap a) := Heap.get?_push_at rfl rfl
  have J2 : Inv X pins σ H ⟨h1.push (mwrap a), g, d, t + 1, os⟩ := J1.kept (t' := t + 1) fun b o z => Heap.get?_push_of_some _ z
  have J3 : Inv X ((h1.objs.size, mwrap a) :: pins) σ H ⟨h1.push (mwrap a), g, d, t + 1, os⟩ := J2.pins_of fun p hp => by
    rcases List.mem_cons.mp hp with rfl | hp
    · refine ⟨gu, J1.hok.fresh (Nat.le_refl _), fun z => ?_, J1.nofs (Nat.le_refl _), fun v z => by cases z⟩
      have z' : h1.objs.size = X.env.locals := z
      have y := J1.lt
      rw [← z'] at y
      exact absurd y (Nat.lt_irrefl _)
    · exact J2.pin p (List.mem_append_right _ hp)
  show wpAny _ _ (callWith p3 (.ref h1.objs.size) [] (backTo p3 (starEach [e] X.env)) []) _ _ _
  have hq' : tCons te tNil σ H fun xs H1 => xs.length ≤ 1 ∧ H1 a = some (exo a C none) ∧ Q H1 := hq
  rw [hse]
  refine PySem.W.kxs_callWith (i := "ValueError.__init__") (x := a) (by rfl) ?_
  refine Calls.evalArgs_plain ?_
  have pr := (pa_cons he pa_nil hse).run p3 _ _ σ H _ J3 hq'
  rw [hse] at pr
  refine thn pr fun us s2 hh => ?_
  obtain ⟨xs, H2, I2, r2, hx1, ha2, hQ2⟩ := hh
  have gw := (I2.pin (h1.objs.size, mwrap a) (List.mem_append_right _ List.mem_cons_self)).1
  refine ⟨gw, ?_⟩
  obtain ⟨t2, hga2⟩ := exo_at I2.hok ha2
  obtain ⟨hp2, g2, d2, tk2, os2⟩ := s2
  have hul : us.length ≤ sizeLine := by
    rw [← r2.length, sizeLine_eq]
    omega
  refine call_wrap (us := us) (I2.kIn _ _ hC) hga2 gw hul fun h3 t3 k3' e3 => ?_
  have J4 := I2.write (t' := tk2) (x := a) (e := a) (o := exo a C none) (by rw [ha2]; exact True.intro) (.inl rfl) k3' ⟨_, e3⟩ (exo_ok e3)
  have eu : upd H2 a (exo a C none) = H2 := by
    funext b
    by_cases hb : b = a
    · rw [hb, upd_same, ha2]
    · exact upd_ne hb
  rw [eu] at J4
  exact ⟨H2, J4.pins_of fun p hp => J4.pin p (List.mem_append_right _ (List.mem_cons_of_mem _ hp)), hQ2⟩
end

/-! ### the making of an own error, as a promise -/
/-- at a an exception of the class at C is being made; the argument v goes to the field fl -/
def spErr (C : Addr) (fl : Str) (ok : V → Prop) : Sp := fun vs H Q _ => ∃ (a : Addr) (v : V), vs = [.ref a, v] ∧ H a = some (exo a C none) ∧ ok v ∧
  ∀ dx, H dx = none → dx ≠ a → Q .non (upd (upd H dx (exd dx [(fl, v)])) a (exo a C (some dx)))

def okInt : V → Prop := fun v => ∃ i : Int, v = .int i ∧ i.natAbs.log2 < 1920
def okTxt : V → Prop := fun v => ∃ y : Str, v = .str y ∧ (reprText y).length ≤ 10000

section
variable {P : Program} {w : World} {K : PySem.W.Frag} {mg : Str → Option Value} {base : Heap} {C f cda cc : Addr} {qual pn : Str} {st : Stmt} {N : List Str}

abbrev supNF (qual : Str) (st : Stmt) (cda cc : Addr) : NF := ⟨"__init__", qual, defArgs st, defBody st, defScope st, [("__class__", cc)], cda⟩

/-- a def that closes over __class__ alone, entered: its body runs in the frame of NdefX -/
theorem sup_fn {CX : CXT} {sp : Sp} {k : Nat} {ps : List Str} (T : ErrTxt P K mg C f cda cc qual st) (S : NScope N ps ["__class__"] (defScope st))
    (len : ∀ vs H Q E, sp vs H Q E → vs.length = ps.length)
    (hb : ∀ (oc : Value) (od an : Option Addr) (kV doc pm ct : Value) (us : List Value), us.length = ps.length →
      bindArgs (PySem.W.fnX "__init__" qual (defArgs st) (defBody st) (defScope st) [("__class__", cc)] .none kV doc pm an (.ref cda) ct) ⟨us, []⟩ = pure (ps.zip us))
    (hbody : ∀ (A : Around) (outer : List Env) (s : Shared) (H : Hp) (vs : List V) (Q : VK) (E : XK), sp vs H Q E → Room k (ncx CX P w K mg base N (supNF qual st cda cc) f A outer s H E).A →
      ∀ s1, L2.Inv (ncx CX P w K mg base N (supNF qual st cda cc) f A outer s H E) [] (startF N vs [none]) H s1 →
        _root_.PySem.wpAt (model P w) (ncx CX P w K mg base N (supNF qual st cda cc) f A outer s H E).A (.func (defBody st) (ncx CX P w K mg base N (supNF qual st cda cc) f A outer s H E).env)
          (execs (defBody st) (ncx CX P w K mg base N (supNF qual st cda cc) f A outer s H E).env)
          (SP (ncx CX P w K mg base N (supNF qual st cda cc) f A outer s H E) [] { nx := fun _ H' => Q .non H', rt := Q })
          (ncx CX P w K mg base N (supNF qual st cda cc) f A outer s H E).xe s1) :
    ∃ fd, FnOk P w K mg base CX (k + 1) f fd ps sp ∧ Binds K fd ps [] := by
  obtain ⟨oc, od, an, kV, doc, pm, ct, osl, lf⟩ := T.fn
  obtain ⟨oc2, lcell, dcell⟩ := T.cell
  refine ⟨_, ⟨len, fun A outer s H args us vs Q E hr e0 hbd r hsp => ?_⟩, Binds.all (hb oc od an kV doc pm ct)⟩
  have hl := len _ _ _ _ hsp
  have KX : K.In s.heap := e0.mod.kin.keeps fun b o e => (e0.bs b o e).1
  have lim : s.heap.NoLimit := e0.mod.nolimit.keeps fun b o e => (e0.bs b o e).1
  have hH : H cc = none := (e0.bs cc oc2 (e0.mod.kin _ _ lcell)).2
  have CA : CellsAt [("__class__", cc)] ["__class__"] [none] s.heap H := {
    len := rfl
    all := fun y c h => by
      have h' : (if y = ("__class__" : Str) then some cc else none) = some c := by
        by_cases e : y = ("__class__" : Str)
        · subst e; exact h
        · have q : (y == ("__class__" : Str)) = false := by simpa using e
          have z : List.lookup y [(("__class__" : Str), cc)] = none := by simp [List.lookup, q]
          rw [z] at h; cases h
      split at h'
      · cases h'
        exact ⟨hH, some (.ref C), oc2, KX _ _ lcell, dcell⟩
      · cases h'
    inj := fun x y c h1 h2 => by
      have key : ∀ z : Str, List.lookup z [(("__class__" : Str), cc)] = some c → z = "__class__" := fun z hz => by
        by_cases e : z = ("__class__" : Str)
        · exact e
        · have q : (z == ("__class__" : Str)) = false := by simpa using e
          have w : List.lookup z [(("__class__" : Str), cc)] = none := by simp [List.lookup, q]
          rw [w] at hz; cases hz
      exact (key x h1).trans (key y h2).symm
    has := fun i y h => by
      match i, h with
      | 0, h =>
        have e : ("__class__" : Str) = y := Option.some.inj h
        subst e
        exact ⟨cc, by simp [List.lookup], fun v z => by cases z⟩
      | i + 1, h => cases h }
  refine ks_codeAny_call_defAt (binds := ps.zip us) hr.depth (KX _ _ lf) rfl lim (PySem.W.codeRec_of KX T.code) rfl hbd S.nocell (fun ⟨n, _⟩ hy => S.par n (List.of_mem_zip hy).1) (fun h1 hns kp => ?_) S.co S.gen S.kind
  have I : L2.Inv (ncx CX P w K mg base N (supNF qual st cda cc) f A outer s H E) [] (startF N vs [none]) H { s with heap := h1, toks := s.toks + (ps.zip us).length } :=
    inv_startN S hr.hd e0 hl r CA hns kp
  refine _root_.PySem.wpAt_mono (hbody A outer s H vs Q E hsp (hr.deeper _) _ I) (fun fl s' hs => ?_) fun e s' hs => hs
  cases fl with
  | ret u =>
    obtain ⟨v, σ', H', J, rv, q⟩ := hs
    exact ⟨v, H', J.os, J.bare, J.base, J.hok, rv, q⟩
  | next =>
    obtain ⟨σ', H', J, q⟩ := hs
    exact ⟨V.non, H', J.os, J.bare, J.base, J.hok, rfl, q⟩
  | brk =>
    obtain ⟨_, _, _, q⟩ := hs
    exact False.elim q
  | cont =>
    obtain ⟨_, _, _, q⟩ := hs
    exact False.elim q
end

section
variable {P : Program} {w : World} {K : PySem.W.Frag} {mg : Str → Option Value} {base : Heap} {C f cda cc : Addr} {qual pn : Str} {st : Stmt} {N : List Str}

/-- the body: super().__init__(e), then one statement more -/
theorem two_run {X : Cx} {σ : L2.St} {H : Hp} {s : Shared} {a : Addr} {e : Expr} {te : TE} {t2 : TS} {st2 : Stmt} {body : List Stmt} {p0 p1 p2 p3 p4 : Pos} {scope : Scope} {ar : Arg} {D : Ends}
    (T : ErrTxt X.prog X.K X.mg C f cda cc qual st) (I : L2.Inv X [] σ H s)
    (henv : X.env = PySem.W.envX qual scope X.env.locals f (.ref cda) [("__class__", cc)])
    (hks : scope.names.lookup ("super" : Str) = some .globalImplicit) (hkc : scope.names.lookup ("__class__" : Str) = some .free)
    (hka : scope.names.lookup ar.arg = some .local)
    (har : ((defArgs st).posonlyargs ++ (defArgs st).args).head? = some ar)
    (h0 : X.N[0]? = some ar.arg) (hs0 : σ[0]? = some (some (V.ref a))) (ha : H a = some (exo a C none))
    (he : PE X e te) (h2 : PS X st2 t2) (hq : te σ H fun x H1 => [x].length ≤ 1 ∧ H1 a = some (exo a C none) ∧ t2 D σ H1) {pl : Sem Bool}
    (hform : eval (.Call (.Attribute (.Call (.Name "super" p0) [] [] p1) "__init__" p2) [e] [] p3) X.env = (do
      let ov ← attributeBase (.Call (.Name "super" p0) [] [] p1) "__init__" X.env (eval (.Call (.Name "super" p0) [] [] p1) X.env)
      standAt p2.atName
      let (g, first) ← holding [ov] (getMethod ov "__init__" pl)
      callWith p3 g first (backTo p3 (starEach [e] X.env)) []) := by rfl)
    (hse : starEach [e] X.env = (false, eval e X.env) :: starEach [] X.env := by rfl) (hi : interactive X.env = false := by rfl) :
    _root_.PySem.wpAt (model X.prog X.w) X.A (.func body X.env)
      (execs [.Expr (.Call (.Attribute (.Call (.Name "super" p0) [] [] p1) "__init__" p2) [e] [] p3) p4, st2] X.env) (SP X [] D) X.xe s := by
  refine ks_wpAt_execs_cons (ks_wpAt_Expr_any ?_ hi)
  refine _root_.PySem.wpAt_mono (super_init (Q := fun H1 => t2 D σ H1) T I henv hks hkc hka har h0 hs0 ha he hq hform hse) (fun v s' hh => ?_) fun _ _ z => z
  obtain ⟨H1, I1, q⟩ := hh
  exact _root_.PySem.wpAt_of_wpAny ((pss_one h2).run [] s' σ H1 D I1 q)

theorem form_of (env : Env) {p0 p1 p2 p3 q4 : Pos} {ps : List Expr} (hln : (p2.endLine == p3.line) = true) : eval (.Call (.Attribute (.Call (.Name "super" p0) [] [] p1) "__init__" p2) [.JoinedStr ps q4] [] p3) env = (do
      let ov ← attributeBase (.Call (.Name "super" p0) [] [] p1) "__init__" env (eval (.Call (.Name "super" p0) [] [] p1) env)
      standAt p2.atName
      let (g, first) ← holding [ov] (getMethod ov "__init__" (do return (← importBound (.Call (.Name "super" p0) [] [] p1) env).getD true))
      callWith p3 g first (backTo p3 (starEach [.JoinedStr ps q4] env)) []) := by
  have hp : methodCallPos true (.Call (.Name "super" p0) [] [] p1) env p2 p3 = pure p3 := by
    unfold methodCallPos
    rw [hln]
    rfl
  show (do
    let ov ← attributeBase (.Call (.Name "super" p0) [] [] p1) "__init__" env (eval (.Call (.Name "super" p0) [] [] p1) env)
    standAt p2.atName
    let (g, first) ← holding [ov] (getMethod ov "__init__" (do return (← importBound (.Call (.Name "super" p0) [] [] p1) env).getD true))
    let cp ← methodCallPos true (.Call (.Name "super" p0) [] [] p1) env p2 p3
    callWith cp g first (backTo p3 (starEach [.JoinedStr ps q4] env)) []) = _
  rw [hp]
  rfl
theorem lit_small {lit : Str} (hl : lit.length ≤ 1000) : (Str.empty ++ lit).length ≤ 1000 := by
  rw [Str.length_append]
  exact Nat.le_trans (Nat.le_of_eq (Nat.zero_add _)) hl
theorem err_int {lit : Str} {j : Nat} {q1 q2 q3 q4 p0 p1 p2 p3 p4 r1 r2 r3 r4 : Pos} {ar : Arg} (T : ErrTxt P K mg C f cda cc qual st)
    (hbd : defBody st = [.Expr (.Call (.Attribute (.Call (.Name "super" p0) [] [] p1) "__init__" p2) [.JoinedStr [.Constant (.str lit) j q1, .FormattedValue (.Name pn q2) (-1) none q3] q4] [] p3) p4,
      .Assign [.Attribute (.Name "self" r1) pn r2] (.Name pn r3) r4]) (hln : (p2.endLine == p3.line) = true)
    (S : NScope ["self", pn, "__class__"] ["self", pn] ["__class__"] (defScope st))
    (hb : ∀ (oc : Value) (od an : Option Addr) (kV doc pm ct : Value) (us : List Value), us.length = 2 →
      bindArgs (PySem.W.fnX "__init__" qual (defArgs st) (defBody st) (defScope st) [("__class__", cc)] .none kV doc pm an (.ref cda) ct) ⟨us, []⟩ = pure ((["self", pn] : List Str).zip us))
    (hks : (defScope st).names.lookup ("super" : Str) = some .globalImplicit)
    (har : ((defArgs st).posonlyargs ++ (defArgs st).args).head? = some ar) (har2 : ar.arg = "self")
    (hd1 : (pn == ("__debug__" : Str)) = false) (hd2 : (pn == ("__classdict__" : Str)) = false)
    (hlit : lit.length ≤ 1000) (hno : PySem.W.findIn K (.ref C) pn = some none) :
    ∃ fd, FnOk P w K mg base CX0 2 f fd ["self", pn] (spErr C pn okInt) ∧ Binds K fd ["self", pn] [] := by
  refine sup_fn T S (fun vs H Q E h => ?_) hb fun A outer s H vs Q E hsp hroom s1 I => ?_
  · obtain ⟨a, v, rfl, _⟩ := h
    rfl
  · obtain ⟨a, v, rfl, ha, ⟨i, rfl, hi⟩, hQ⟩ := hsp
    have vN : Vis (ncx CX0 P w K mg base ["self", pn, "__class__"] (supNF qual st cda cc) f A outer s H E).env.scope pn := .inl (S.par _ (by simp))
    have vS : Vis (ncx CX0 P w K mg base ["self", pn, "__class__"] (supNF qual st cda cc) f A outer s H E).env.scope "self" := .inl (S.par _ (by simp))
    rw [hbd]
    refine two_run (te := fun σ H Q => tJs [tC (.str lit), tFmt (tVar 1)] Str.empty σ H fun out H1 => Q (.str out) H1) T I rfl hks (S.frk _ (by simp)) (by rw [har2]; exact S.par _ (by simp)) har (by rw [har2]; rfl) rfl ha
      (pe_joined (.cons pe_str (.cons (pe_fmt (pe_var (i := 1) rfl vN hd1 hd2)) .nil)))
      (ps_ost (pe_var (i := 0) rfl vS) (pe_var (i := 1) rfl vN hd1 hd2)) ?_ (form_of _ hln) (by rfl) (by show ((defScope st).kind == _ && _) = false; rw [S.kind]; rfl)
    have e0 := lit_small hlit
    have e1 := int_text_length_le (k := 1920) (by decide) hi
    refine ⟨lit, rfl, by rw [sizeLine_eq]; omega, _, rfl, .inr ⟨i, rfl, hi, Str.ofString (toString i), rfl, ?_, Nat.le_refl _, ha, ?_⟩⟩
    · rw [Str.length_append, PySem.ofString_length, sizeLine_eq]
      omega
    · exact ⟨_, rfl, _, rfl, a, C, rfl, T.oex, hno, .inl ⟨ha, fun dx h1 h2 => hQ dx h1 h2⟩⟩
/-- the same where the argument is a text, shown by its repr -/
theorem err_txt {lit : Str} {j : Nat} {q1 q2 q3 q4 p0 p1 p2 p3 p4 r1 r2 r3 r4 : Pos} {ar : Arg} (T : ErrTxt P K mg C f cda cc qual st)
    (hbd : defBody st = [.Expr (.Call (.Attribute (.Call (.Name "super" p0) [] [] p1) "__init__" p2) [.JoinedStr [.Constant (.str lit) j q1, .FormattedValue (.Name pn q2) 114 none q3] q4] [] p3) p4,
      .Assign [.Attribute (.Name "self" r1) pn r2] (.Name pn r3) r4]) (hln : (p2.endLine == p3.line) = true)
    (S : NScope ["self", pn, "__class__"] ["self", pn] ["__class__"] (defScope st))
    (hb : ∀ (oc : Value) (od an : Option Addr) (kV doc pm ct : Value) (us : List Value), us.length = 2 →
      bindArgs (PySem.W.fnX "__init__" qual (defArgs st) (defBody st) (defScope st) [("__class__", cc)] .none kV doc pm an (.ref cda) ct) ⟨us, []⟩ = pure ((["self", pn] : List Str).zip us))
    (hks : (defScope st).names.lookup ("super" : Str) = some .globalImplicit)
    (har : ((defArgs st).posonlyargs ++ (defArgs st).args).head? = some ar) (har2 : ar.arg = "self")
    (hd1 : (pn == ("__debug__" : Str)) = false) (hd2 : (pn == ("__classdict__" : Str)) = false)
    (hlit : lit.length ≤ 1000) (hno : PySem.W.findIn K (.ref C) pn = some none) :
    ∃ fd, FnOk P w K mg base CX0 2 f fd ["self", pn] (spErr C pn okTxt) ∧ Binds K fd ["self", pn] [] := by
  refine sup_fn T S (fun vs H Q E h => ?_) hb fun A outer s H vs Q E hsp hroom s1 I => ?_
  · obtain ⟨a, v, rfl, _⟩ := h
    rfl
  · obtain ⟨a, v, rfl, ha, ⟨y, rfl, hy⟩, hQ⟩ := hsp
    have vN : Vis (ncx CX0 P w K mg base ["self", pn, "__class__"] (supNF qual st cda cc) f A outer s H E).env.scope pn := .inl (S.par _ (by simp))
    have vS : Vis (ncx CX0 P w K mg base ["self", pn, "__class__"] (supNF qual st cda cc) f A outer s H E).env.scope "self" := .inl (S.par _ (by simp))
    rw [hbd]
    refine two_run (te := fun σ H Q => tJs [tC (.str lit), tFmtR (tVar 1)] Str.empty σ H fun out H1 => Q (.str out) H1) T I rfl hks (S.frk _ (by simp)) (by rw [har2]; exact S.par _ (by simp)) har (by rw [har2]; rfl) rfl ha
      (pe_joined (.cons pe_str (.cons (pe_fmtR (pe_var (i := 1) rfl vN hd1 hd2)) .nil)))
      (ps_ost (pe_var (i := 0) rfl vS) (pe_var (i := 1) rfl vN hd1 hd2)) ?_ (form_of _ hln) (by rfl) (by show ((defScope st).kind == _ && _) = false; rw [S.kind]; rfl)
    have e0 := lit_small hlit
    refine ⟨lit, rfl, by rw [sizeLine_eq]; omega, _, rfl, .inl ⟨y, rfl, by rw [sizeLine_eq]; omega, reprText y, rfl, ?_, Nat.le_refl _, ha, ?_⟩⟩
    · rw [Str.length_append, sizeLine_eq]
      omega
    · exact ⟨_, rfl, _, rfl, a, C, rfl, T.oex, hno, .inl ⟨ha, fun dx h1 h2 => hQ dx h1 h2⟩⟩
end

/-! ### an own error, ready to be raised and caught -/
structure ErrOk (P : Program) (w : World) (K : PySem.W.Frag) (mg : Str → Option Value) (base : Heap) (nm : Str) (C : Addr) (fl : Str) (ok : V → Prop) : Prop where
  oex : OexC K C
  xf : XfC K C
  g : mg nm = some (.ref C)
  no : PySem.W.findIn K (.ref C) fl = some none
  te : PySem.W.exmOne K (.ref C) (.ref C) = some true
  run : ∃ (f : Addr) (fd : FuncData), PySem.W.findIn K (.ref C) "__init__" = some (some (.ref f)) ∧ PySem.W.typeIn K (.ref f) = some (.type "function") ∧
    FnOk P w K mg base CX0 2 f fd ["self", fl] (spErr C fl ok) ∧ Binds K fd ["self", fl] []

section
variable {X : Cx} {nm : Str} {C : Addr} {fl : Str} {ok : V → Prop} {e : Expr} {ta : TA} {p pos pos2 : Pos} {W : WX}
/-- raise nm(e) -/
def tErr (C : Addr) (fl : Str) (ok : V → Prop) (ta : TA) (W : WX) : TS := fun _ σ H => tMkO C (spErr C fl ok) [] ta σ H fun cls d H' => W cls d σ H'
theorem ps_err (R : ErrOk X.prog X.w X.K X.mg X.base nm C fl ok) (hc : X.calm = true) (tk : Takes X W) (hr : Room 3 X.A) (ha : PA X [e] ta) (hg : Gl X nm)
    (hdb : (nm == ("__debug__" : Str)) = false := by decide) (he : starEach [e] X.env = (false, eval e X.env) :: starEach [] X.env := by rfl) (hpl : (backTo pos (starEach [] X.env)).any (·.1) = false := by rfl) :
    PS X (.Raise (some (.Call (.Name nm p) [e] [] pos)) none pos2) (tErr C fl ok ta W) := by
  obtain ⟨f, fd, h1, h2, h3, h4⟩ := R.run
  exact ps_raise hc tk (pmk_oex R.oex h1 h2 h3 hr h4 .nil pass0 hg R.g ha hdb he hpl)
/-- what such a raise asks: the argument is fit, and every way out is met -/
theorem err_way {H1 : Hp} {v : V} {Q : XK} (hv : ok v) (h : ∀ d, H1 d = none → Q (.ref C) (some d) (upd H1 d (.xd [(fl, v)]))) :
    [v].length ≤ 1000 ∧ ∀ a, H1 a = none → spErr C fl ok (.ref a :: ([v] ++ [])) (upd H1 a (exo a C none))
      (fun r H2 => r = .non ∧ ∃ (d : Addr) (fs : List (Str × V)), H2 a = some (exo a C (some d)) ∧ H2 d = some (exd d fs) ∧ H1 d = none ∧ Q (.ref C) (some d) (upd (del H2 a) d (.xd fs))) (fun _ _ _ => False) := by
  refine ⟨by show 1 ≤ 1000; omega, fun a hn => ⟨a, v, rfl, upd_same, hv, fun dx hdx hne => ⟨rfl, dx, _, upd_same, by rw [upd_ne hne, upd_same], ?_, ?_⟩⟩⟩
  · rw [upd_ne hne] at hdx
    exact hdx
  · have hd1 : H1 dx = none := by
      rw [upd_ne hne] at hdx
      exact hdx
    have e : upd (del (upd (upd (upd H1 a (exo a C none)) dx (exd dx [(fl, v)])) a (exo a C (some dx))) a) dx (.xd [(fl, v)]) = upd H1 dx (.xd [(fl, v)]) := by
      funext b
      by_cases hb : b = dx
      · rw [hb, upd_same, upd_same]
      · rw [upd_ne hb, upd_ne hb]
        by_cases hba : b = a
        · rw [hba, del_same, hn]
        · rw [del_ne hba, upd_ne hba, upd_ne hb, upd_ne hba]
    rw [e]
    exact h dx hd1
end
end Sup

/-! The text of a list, whatever is under way: some text of bounded length. -/
namespace Txs
open PySem PySem.Spec PyProof.Rows
section
variable {prog : Program} {w : World}
/-- the text of an item: some text of at most m signs; what stands in h0 is kept by whoever asks -/
def Tx (prog : Program) (w : World) (h0 : Heap) (m : Nat) (x : Value) : Prop :=
  ∀ (b : Nat), b + m ≤ sizeLine → ∀ (A : Around) (E : Value → Shared → Prop) (s : Shared) (Q : Str → Shared → Prop), A.units + 4 < cLine →
    (∀ c o, h0.get? c = some o → s.heap.get? c = some o) → (∀ (t : Str) (tk : Tok), t.length ≤ m → Q t { s with toks := tk }) → wpAny (model prog w) A (pyReprUnder b x) Q E s
theorem Tx.int {h0 : Heap} {i : Int} (t : Tok) (hi : i.natAbs.log2 < 1920) : Tx prog w h0 1921 (.int i t) := by
  intro b hb A E s Q _ _ h
  have e := int_text_length_le (k := 1920) (by decide) hi
  have e2 : (Str.ofString (toString i)).length ≤ 1921 := by rw [PySem.ofString_length]; exact e
  exact ReprIs.int t hi b (by omega) A E s Q fun tk => h _ tk e2
theorem Tx.mono {h0 : Heap} {m n : Nat} {x : Value} (T : Tx prog w h0 m x) (hmn : m ≤ n) : Tx prog w h0 n x := fun b hb A E s Q hu hk h =>
  T b (by omega) A E s Q hu hk fun t tk ht => h t tk (by omega)
theorem way_len : ("(...)" : Str).length ≤ 5 := by decide +kernel
/-- a tuple of things whose texts are settled -/
theorem Tx.tup {h0 : Heap} {a : Addr} {o : Obj} {items : Array Value} {n : Nat} {ts : List Str} (ha : h0.get? a = some o) (hc : o.cls = .type "tuple") (hd : o.data = .seq items n) (hT : ReprAll prog w items.toList ts) :
    Tx prog w h0 ((tupleText ts).length + 5) (.ref a) := by
  intro b hb A E s Q hu hk h
  have ha' := hk _ _ ha
  refine wpAny_pyReprUnder_ref (by omega) (wpAny_pyReprObjUnder_twin (T := "tuple") (twin := "tuple.__repr__.under") ⟨o, ha', hc⟩ F.slot_tuple_repr rfl (by omega) ?_)
  refine call_twin_own (F.quiet_tuple_repr_under _) F.entry_tuple_repr_under F.check_tuple_repr_under ⟨o, ha', hc⟩ F.slot_tuple_repr (F.args_tuple_repr_1 _) (wpOwn_of_wpAny ?_)
  show wpAny _ _ (Builtin.tupleReprAt b ⟨[.ref a], []⟩) _ _ s
  rw [tuple_repr_tree]
  refine wpAny_bind (fmt_underWay fun c => ?_)
  cases c with
  | true =>
    refine PySem.W.KFB.if_so rfl (wpAny_bind (wpAny_rule (wpAny_bind (wpAny_mkStr (wpAny_pure ?_) (by decide +kernel)))))
    exact ⟨⟨_, _, rfl⟩, _, _, rfl, h "(...)" _ (Nat.le_trans way_len (Nat.le_add_left _ _))⟩
  | false =>
    refine PySem.W.KFB.if_not rfl (wpAny_tupleReprRest ha' hd hT (fun u tk => ?_) (by omega))
    exact ⟨⟨_, _, rfl⟩, _, _, rfl, h (tupleText ts) tk (Nat.le_add_right _ _)⟩
theorem piled_le {m : Nat} : ∀ {ts : List Str}, (∀ t ∈ ts, t.length ≤ m) → piled ts ≤ (m + 2) * ts.length
  | [], _ => Nat.zero_le _
  | t :: ts, h => by
    have h1 := h t List.mem_cons_self
    have h2 := piled_le (ts := ts) fun u hu => h u (List.mem_cons_of_mem _ hu)
    rw [piled_cons, List.length_cons, Nat.mul_succ]
    omega
theorem listText_le : ∀ ts : List Str, (listText ts).length ≤ piled ts + 2
  | [] => by
    show (listText []).length ≤ 2
    rw [listText_nil]
    decide +kernel
  | t :: r => by
    have h := textFrom_length_pos r 1 (("[" : Str) ++ (if (0 : Nat) > 0 then ", " else "" : String) ++ t) (Nat.succ_pos 0)
    have e : ((("[" : Str) ++ (if (0 : Nat) > 0 then ", " else "" : String) ++ t)).length = 1 + t.length := by
      rw [strLen_append, strLen_append]; rfl
    have e3 : (listText (t :: r)).length = (textFrom 1 (("[" : Str) ++ (if (0 : Nat) > 0 then ", " else "" : String) ++ t) r).length + 1 := by
      show (textFrom 1 _ r ++ "]").length = _
      rw [strLen_append]; rfl
    rw [e3, h, e, piled_cons]
    omega
variable {A : Around} {R : Result → Shared → Prop}
theorem units_loop (A : Around) (args : Args) : (A.under (.builtin "list.__repr__.loop" args)).units ≤ A.units + 1 := by
  have e : (A.under (.builtin "list.__repr__.loop" args)).units = A.units + 1 ∨ (A.under (.builtin "list.__repr__.loop" args)).units = A.units := by
    first
      | exact .inl rfl
      | exact .inr rfl
      | simp [Around.under, Code.cUnits, Code.frames, Code.isFrame]
  rcases e with e | e <;> omega
theorem run_loop {h0 : Heap} {a Pa : Addr} {items : Array Value} {m b : Nat} (hP0 : h0.get? Pa = none) (hT : ∀ (i : Nat) (x : Value), items[i]? = some x → Tx prog w h0 m x)
    (hsz : b + ((m + 2) * items.size + 2 + m) ≤ sizeLine) (hu : A.units + 5 < cLine) {oa : Obj} {na : Nat} (ha : h0.get? a = some oa) (hda : oa.data = .seq items na) :
    ∀ (k i : Nat) (s : Shared) (acc : Array Value) (c : Nat) (done : List (Str × Tok)), items.size - i = k → i ≤ items.size → (∀ c o, h0.get? c = some o → s.heap.get? c = some o) →
    s.heap.get? Pa = some { cls := .type "list", dict := none, data := .seq acc c, slots := #[] } → acc.toList = strValues done → done.length = i → (∀ p ∈ done, p.1.length ≤ m) →
    (∀ h' (t : Str) u tk, t.length ≤ (m + 2) * items.size + 2 → (∀ b o, b ≠ Pa → s.heap.get? b = some o → h'.get? b = some o) → R (.ok (.ret (.str t u))) { s with heap := h', toks := tk }) →
    codeAny (model prog w) A (.builtin "list.__repr__.loop" ⟨[.ref a, rawInt i, .ref Pa, rawInt ((b + piled (done.map (·.1)) : Nat) : Int)], []⟩) R s := by
  intro k
  induction k with
  | zero =>
    intro i s acc c done hk hi hk0 hP hacc hdone hm hR
    have hin : i = items.size := by omega
    refine codeAny_builtin F.entry_list_repr_loop ?_
    show wpAny _ _ (Builtin.«list.__repr__.loop» ⟨[.ref a, .int i 0, .ref Pa, .int ((b + piled (done.map (·.1)) : Nat) : Int) 0], []⟩) _ _ s
    rw [repr_loop_tree]
    refine wpAny_bind (wpAny_listItems (hk0 _ _ ha) hda ?_)
    have hnone : items[(i : Int).toNat]? = none := by simp [hin]
    simp only [hnone]
    unfold reprEnd
    refine wpAny_bind (wpAny_listItems hP rfl ?_)
    rw [hacc, repr_fold]
    have hpl := piled_le (m := m) (ts := done.map (·.1)) fun t ht => by
      obtain ⟨p, hp, rfl⟩ := List.mem_map.mp ht
      exact hm p hp
    have hlt := listText_le (done.map (·.1))
    rw [List.length_map, hdone, hin] at hpl
    refine wpAny_bind (wpAny_pure (wpAny_bind (wpAny_mkStr (wpAny_pure ?_) (show (listText (done.map (·.1))).length ≤ sizeLine by omega))))
    exact hR s.heap (listText (done.map (·.1))) _ _ (by omega) (fun _ _ _ e => e)
  | succ k ih =>
    intro i s acc c done hk hi hk0 hP hacc hdone hm hR
    have hlt : i < items.size := by omega
    have hrep := hT i items[i] (by simp [hlt])
    have hpl := piled_le (m := m) (ts := done.map (·.1)) fun t ht => by
      obtain ⟨p, hp, rfl⟩ := List.mem_map.mp ht
      exact hm p hp
    rw [List.length_map, hdone] at hpl
    have hmul : (m + 2) * i ≤ (m + 2) * items.size := Nat.mul_le_mul_left _ hi
    refine codeAny_builtin F.entry_list_repr_loop ?_
    show wpAny _ _ (Builtin.«list.__repr__.loop» ⟨[.ref a, .int i 0, .ref Pa, .int ((b + piled (done.map (·.1)) : Nat) : Int) 0], []⟩) _ _ s
    rw [repr_loop_tree]
    refine wpAny_bind (wpAny_listItems (hk0 _ _ ha) hda ?_)
    have hsome : items[(i : Int).toNat]? = some items[i] := by simp [hlt]
    simp only [hsome]
    rw [Int.toNat_natCast]
    have hul := units_loop A ⟨[.ref a, .int i 0, .ref Pa, .int ((b + piled (done.map (·.1)) : Nat) : Int) 0], []⟩
    refine wpAny_bind (wpAny_holding (hrep (b + piled (done.map (·.1)) + 1) (by omega) _ _ _ _ (Nat.lt_of_le_of_lt (Nat.add_le_add_right hul 4) (by omega)) hk0 fun t tk ht => ?_))
    refine wpAny_bind (wpAny_mkStr ?_ (show t.length ≤ sizeLine by omega))
    refine wpAny_bind ?_
    show wpAny _ _ (updateSeq Pa _) _ _ _
    have hasz : acc.size ≤ sizeLine := by
      have e1 : acc.toList.length = acc.size := by simp
      have e2 : (strValues done).length = done.length := by simp [strValues]
      have e3 : i ≤ (m + 2) * items.size := Nat.le_trans hi (Nat.le_mul_of_pos_left _ (by omega))
      rw [hacc] at e1; omega
    refine wpAny_updateSeq hP rfl (wpAny_pure ⟨F.quiet_list_repr_loop _, ?_⟩) hasz
    have e1 : ((i : Int) + 1) = ((i + 1 : Nat) : Int) := by omega
    have e2 : b + piled (done.map (·.1)) + (t.length + 2) = b + piled ((done ++ [(t, tk)]).map (·.1)) := by
      rw [List.map_append, piled_append]
      simp [piled]
      omega
    rw [e1]
    show codeAny _ _ (.builtin "list.__repr__.loop" ⟨[.ref a, rawInt ((i + 1 : Nat) : Int), .ref Pa, rawInt ((b + piled (done.map (·.1)) + (t.length + 2) : Nat) : Int)], []⟩) _ _
    rw [e2]
    have nP : ∀ c o, h0.get? c = some o → Pa ≠ c := fun c o e z => by
      rw [z, e] at hP0
      cases hP0
    refine ih (i + 1) _ (acc.push (.str t tk)) _ (done ++ [(t, tk)]) (by omega) hlt (fun c o e => (Heap.get?_update_other _ _ (nP c o e)).trans (hk0 c o e)) (Heap.get?_update_self _ hP rfl) (by simp [hacc, strValues]) (by rw [List.length_append, hdone]; rfl)
      (fun p hp => ?_) fun h' t' u tk' ht' hh => ?_
    · rcases List.mem_append.mp hp with z | z
      · exact hm p z
      · rw [List.mem_singleton.mp z]
        exact ht
    · exact hR h' t' u tk' ht' fun b o hb e => hh b o hb ((Heap.get?_update_other _ _ (fun z : Pa = b => hb z.symm)).trans e)
end
section
variable {prog : Program} {w : World} {A : Around} {E : Value → Shared → Prop} {s : Shared}
/-- {xs}, a list: some text -/
theorem fmt_list {a : Addr} {items : Array Value} {n m : Nat} {Q : Value → Shared → Prop} (hu : A.units + 8 < cLine) (ha : s.heap.get? a = some { cls := .type "list", data := .seq items n })
    (hT : ∀ (i : Nat) (x : Value), items[i]? = some x → Tx prog w s.heap m x) (hsz : (m + 2) * items.size + 2 + m ≤ sizeLine)
    (h : ∀ h' (t : Str) (u : Tok) tk, t.length ≤ (m + 2) * items.size + 5 → (∀ b o, s.heap.get? b = some o → h'.get? b = some o) → Q (.str t u) { s with heap := h', toks := tk }) : wpAny (model prog w) A (formatField (.ref a) Str.empty) Q E s := by
  refine wpAny_formatField_slot (T := "list") (idr := "list.__repr__") (fun _ _ => nofun) (by omega) ⟨_, ha, rfl⟩ F.slot_list_format F.slot_list_str F.slot_list_repr.toG ?_
  have hs0 : ({ s with toks := s.toks + 1 } : Shared).heap = s.heap := rfl
  refine wpAny_call (codeAny_call_builtin F.slot_list_repr.plain F.entry_list_repr (F.slot_list_repr.check _ _ _ _ _ _ _ _ ⟨_, ha, rfl⟩ (F.args_list_repr_1 _) ?_))
  show wpAny _ _ (Builtin.listReprAt 0 ⟨[.ref a], []⟩) _ _ { s with toks := s.toks + 1 }
  have fin : ∀ h' (t : Str) (u : Tok) tk, t.length ≤ (m + 2) * items.size + 5 → (∀ b o, s.heap.get? b = some o → h'.get? b = some o) → ∃ x t', Value.str t u = .str x t' ∧ Q (.str t u) { s with heap := h', toks := tk } :=
    fun h' t u tk h1 h2 => ⟨t, u, rfl, h h' t u tk h1 h2⟩
  unfold Builtin.listReprAt
  refine wpAny_bind (wpAny_of_eq (a := (Value.ref a, ([] : List Value))) (by first | rfl | (simp only [slotArgs]; rfl)) ?_)
  show wpAny _ _ (Builtin.List.listItems (.ref a) >>= _) _ _ { s with toks := s.toks + 1 }
  refine wpAny_bind (wpAny_listItems (s := { s with toks := s.toks + 1 }) ha rfl ?_)
  by_cases he : items.isEmpty = true
  · refine PySem.W.KFB.if_so he (wpAny_bind (wpAny_rule ?_))
    refine wpAny_bind (wpAny_mkStr (wpAny_pure ?_) (by decide +kernel))
    exact fin s.heap _ _ _ (Nat.le_trans (by decide +kernel : ("[]" : Str).length ≤ 5) (Nat.le_add_left _ _)) fun _ _ e => e
  · refine PySem.W.KFB.if_not (by simpa using he) ?_
    refine wpAny_bind (wpAny_stack_any fun st => ?_)
    dsimp only
    refine wpAny_ite_split (fun _ => ?_) (fun _ => ?_)
    · refine wpAny_bind (wpAny_rule ?_)
      refine wpAny_bind (wpAny_mkStr (wpAny_pure ?_) (by decide +kernel))
      exact fin s.heap _ _ _ (Nat.le_trans (by decide +kernel : ("[...]" : Str).length ≤ 5) (Nat.le_add_left _ _)) fun _ _ e => e
    · refine wpAny_bind (m := newList []) (wpAny_newObj_type ?_)
      refine wpAny_pure ⟨F.quiet_list_repr_loop _, ?_⟩
      have q := run_loop (prog := prog) (w := w) (A := A.in1.in1) (h0 := s.heap) (a := a) (Pa := s.heap.objs.size) (items := items) (m := m) (b := 0) (R := fun r s' => match r with
          | .ok (.ret v) => ∃ x t, v = Value.str x t ∧ Q v s'
          | .ok _ => False
          | .error e => E e s') (Heap.get?_none_of_le (Nat.le_refl _)) hT (by omega) (by show A.units + 2 + 5 < cLine; omega) ha rfl items.size 0
          { s with heap := s.heap.push { cls := .type "list", data := .seq #[] }, toks := s.toks + 1 } #[] 0 [] (by omega) (by omega) (fun c o e => Heap.get?_push_of_some _ e) (Heap.get?_push_size _ rfl) rfl rfl (fun p hp => absurd hp (by simp)) ?_
      · exact q
      · intro h' t u tk ht hk
        exact fin h' t u tk (by omega) fun b o e => hk b o (Nat.ne_of_lt (Heap.lt_size e)) (Heap.get?_push_of_some _ e)
end
end Txs
namespace Sup
open PySem PySem.Spec PyProof.Rows L2
/-- what a shown list may hold: whole numbers, tuples of whole numbers -/
def Shown (H : Hp) (xs : List V) : Prop := ∀ v ∈ xs, (∃ i : Int, v = .int i ∧ i.natAbs.log2 < 1920) ∨ ∃ (t : Addr) (ns : List Int), v = .ref t ∧ H t = some (.tup (ns.map V.int)) ∧ ns.length ≤ 10 ∧ ∀ i ∈ ns, i.natAbs.log2 < 1920
theorem reprs_int {prog : Program} {w : World} : ∀ {ns : List Int} {its : List Value}, Vals (ns.map V.int) its → (∀ i ∈ ns, i.natAbs.log2 < 1920) → ReprAll prog w its (ns.map fun i => Str.ofString (toString i))
  | [], _, r, _ => by
    cases r
    exact .nil
  | i :: ns, _, r, h => by
    cases r with
    | cons r1 r2 =>
      obtain ⟨t, rfl⟩ := r1
      exact .cons (ReprIs.int t (h i List.mem_cons_self)) (reprs_int r2 fun z hz => h z (List.mem_cons_of_mem _ hz))
def tFmtL (te : TE) : TE := fun σ H Q => te σ H fun x H1 => ∃ (a : Addr) (xs : List V), x = .ref a ∧ H1 a = some (.lst xs) ∧ xs.length ≤ 60 ∧ Shown H1 xs ∧ ∀ y : Str, y.length ≤ 2000000 → Q (.str y) H1
theorem pe_fmtL {X : Cx} {e : Expr} {te : TE} {pos : Pos} (hu : X.A.units + 64 < cLine) (he : PE X e te) : PE X (.FormattedValue e (-1) none pos) (tFmtL te) := by
  refine ⟨fun pins s σ H Q I h => ?_⟩
  refine wpAny_FormattedValue_plain (thn (he.run pins s σ H _ I h) fun v s1 hv => ?_)
  obtain ⟨x, H1, I1, r1, a, xs, rfl, ht, hlen, hsh, q⟩ := hv
  cases r1
  obtain ⟨_, its, n, rv, ho⟩ := (show ObjOk X.prog X.w H1 s1.heap a (.lst xs) from I1.hok a _ ht)
  have hl : its.length = xs.length := rv.length.symm
  have hsz : (20000 + 2) * its.toArray.size + 2 + 20000 ≤ sizeLine := by
    rw [List.size_toArray, hl, sizeLine_eq]
    omega
  refine Txs.fmt_list (m := 20000) (by omega) ho (fun i y hy => ?_) hsz fun h' t u tk htl hk => ⟨.str t, H1, I1.kept hk, ⟨u, rfl⟩, q t ?_⟩
  · have hy' : its[i]? = some y := by simpa using hy
    have hi : i < xs.length := by
      rw [← hl]
      exact (List.getElem?_eq_some_iff.mp hy').1
    obtain ⟨u, hu', ru⟩ := rv.get (List.getElem?_eq_getElem hi)
    rw [hy'] at hu'
    obtain rfl := Option.some.inj hu'
    rcases hsh _ (List.getElem_mem hi) with ⟨j, ej, hj⟩ | ⟨t, ns, et, htt, h10, hns⟩
    · rw [ej] at ru
      obtain ⟨tk, rfl⟩ := ru
      exact (Txs.Tx.int tk hj).mono (by decide)
    · rw [et] at ru
      obtain rfl : y = Value.ref t := ru
      obtain ⟨its2, r2, ⟨o, ho2, hc2, n2, hd2⟩, _⟩ := I1.tuple (.inl (.inl htt))
      have T := Txs.Tx.tup (prog := X.prog) (w := X.w) (h0 := s1.heap) ho2 hc2 hd2 (reprs_int r2 hns)
      refine T.mono ?_
      have h1 := fmt_text (ns.map fun i => Str.ofString (toString i))
      have h2 := Txs.piled_le (m := 1921) (ts := ns.map fun i => Str.ofString (toString i)) fun z hz => by
        obtain ⟨i, hi, rfl⟩ := List.mem_map.mp hz
        have e := int_text_length_le (k := 1920) (by decide) (hns i hi)
        rw [PySem.ofString_length]
        exact e
      rw [List.length_map] at h2
      have h3 : (1921 + 2) * ns.length ≤ (1921 + 2) * 10 := Nat.mul_le_mul_left _ h10
      omega
  · rw [List.size_toArray, hl] at htl
    omega
end Sup

namespace Sup
open PySem PySem.Spec PyProof.Rows L2 NdefX
/-- the form of super().__init__('..') -/
theorem form_const (env : Env) {p0 p1 p2 p3 q : Pos} {c : Const} {j : Nat} (hln : (p2.endLine == p3.line) = true) : eval (.Call (.Attribute (.Call (.Name "super" p0) [] [] p1) "__init__" p2) [.Constant c j q] [] p3) env = (do
      let ov ← attributeBase (.Call (.Name "super" p0) [] [] p1) "__init__" env (eval (.Call (.Name "super" p0) [] [] p1) env)
      standAt p2.atName
      let (g, first) ← holding [ov] (getMethod ov "__init__" (do return (← importBound (.Call (.Name "super" p0) [] [] p1) env).getD true))
      callWith p3 g first (backTo p3 (starEach [.Constant c j q] env)) []) := by
  have hp : methodCallPos true (.Call (.Name "super" p0) [] [] p1) env p2 p3 = pure p3 := by
    unfold methodCallPos
    rw [hln]
    rfl
  show (do
    let ov ← attributeBase (.Call (.Name "super" p0) [] [] p1) "__init__" env (eval (.Call (.Name "super" p0) [] [] p1) env)
    standAt p2.atName
    let (g, first) ← holding [ov] (getMethod ov "__init__" (do return (← importBound (.Call (.Name "super" p0) [] [] p1) env).getD true))
    let cp ← methodCallPos true (.Call (.Name "super" p0) [] [] p1) env p2 p3
    callWith cp g first (backTo p3 (starEach [.Constant c j q] env)) []) = _
  rw [hp]
  rfl
/-- an error without a field is made -/
def spErr0 (C : Addr) : Sp := fun vs H Q _ => ∃ a : Addr, vs = [.ref a] ∧ H a = some (exo a C none) ∧ Q .non H
/-- an error that keeps a copy of a list -/
def spErrL (C : Addr) (fl : Str) : Sp := fun vs H Q _ => ∃ (a l : Addr) (xs : List V), vs = [.ref a, .ref l] ∧ H a = some (exo a C none) ∧ H l = some (.lst xs) ∧ xs.length ≤ 60 ∧ Shown H xs ∧
  ∀ c dx, H c = none → H dx = none → dx ≠ a → c ≠ a → dx ≠ c → Q .non (upd (upd (upd H c (.lst xs)) dx (exd dx [(fl, .ref c)])) a (exo a C (some dx)))
section
variable {P : Program} {w : World} {K : PySem.W.Frag} {mg : Str → Option Value} {base : Heap} {C f cda cc : Addr} {qual pn : Str} {st : Stmt} {N : List Str}
theorem err_nil {lit : Str} {j : Nat} {q1 p0 p1 p2 p3 p4 : Pos} {ar : Arg} (T : ErrTxt P K mg C f cda cc qual st)
    (hbd : defBody st = [.Expr (.Call (.Attribute (.Call (.Name "super" p0) [] [] p1) "__init__" p2) [.Constant (.str lit) j q1] [] p3) p4]) (hln : (p2.endLine == p3.line) = true)
    (S : NScope ["self", "__class__"] ["self"] ["__class__"] (defScope st))
    (hb : ∀ (oc : Value) (od an : Option Addr) (kV doc pm ct : Value) (us : List Value), us.length = 1 →
      bindArgs (PySem.W.fnX "__init__" qual (defArgs st) (defBody st) (defScope st) [("__class__", cc)] .none kV doc pm an (.ref cda) ct) ⟨us, []⟩ = pure ((["self"] : List Str).zip us))
    (hks : (defScope st).names.lookup ("super" : Str) = some .globalImplicit)
    (har : ((defArgs st).posonlyargs ++ (defArgs st).args).head? = some ar) (har2 : ar.arg = "self") :
    ∃ fd, FnOk P w K mg base CX0 2 f fd ["self"] (spErr0 C) ∧ Binds K fd ["self"] [] := by
  refine sup_fn T S (fun vs H Q E h => ?_) hb fun A outer s H vs Q E hsp hroom s1 I => ?_
  · obtain ⟨a, rfl, _⟩ := h
    rfl
  · obtain ⟨a, rfl, ha, hQ⟩ := hsp
    rw [hbd]
    refine ks_wpAt_execs_cons (ks_wpAt_Expr_any ?_ (by show ((defScope st).kind == _ && _) = false; rw [S.kind]; rfl))
    refine _root_.PySem.wpAt_mono (super_init (Q := fun H1 => Q .non H1) T I rfl hks (S.frk _ (by simp)) (by rw [har2]; exact S.par _ (by simp)) har (by rw [har2]; rfl) rfl ha
      (pe_str (x := lit)) ⟨Nat.le_refl _, ha, hQ⟩ (form_const _ hln) (by rfl)) (fun v s' hh => ?_) fun _ _ z => z
    obtain ⟨H1, I1, q⟩ := hh
    exact _root_.PySem.wpAt_of_wpAny (pss_nil.run [] s' _ H1 { nx := fun _ H' => Q .non H', rt := Q } I1 q)
theorem err_lst {lit : Str} {j : Nat} {q1 q2 q3 q4 p0 p1 p2 p3 p4 r1 r2 r3 r4 r5 r6 : Pos} {ar : Arg} (T : ErrTxt P K mg C f cda cc qual st)
    (hbd : defBody st = [.Expr (.Call (.Attribute (.Call (.Name "super" p0) [] [] p1) "__init__" p2) [.JoinedStr [.Constant (.str lit) j q1, .FormattedValue (.Name pn q2) (-1) none q3] q4] [] p3) p4,
      .Assign [.Attribute (.Name "self" r1) pn r2] (.Call (.Name "list" r3) [.Name pn r4] [] r5) r6]) (hln : (p2.endLine == p3.line) = true)
    (S : NScope ["self", pn, "__class__"] ["self", pn] ["__class__"] (defScope st))
    (hb : ∀ (oc : Value) (od an : Option Addr) (kV doc pm ct : Value) (us : List Value), us.length = 2 →
      bindArgs (PySem.W.fnX "__init__" qual (defArgs st) (defBody st) (defScope st) [("__class__", cc)] .none kV doc pm an (.ref cda) ct) ⟨us, []⟩ = pure ((["self", pn] : List Str).zip us))
    (hks : (defScope st).names.lookup ("super" : Str) = some .globalImplicit)
    (har : ((defArgs st).posonlyargs ++ (defArgs st).args).head? = some ar) (har2 : ar.arg = "self")
    (hd1 : (pn == ("__debug__" : Str)) = false) (hd2 : (pn == ("__classdict__" : Str)) = false)
    (hlit : lit.length ≤ 1000) (hno : PySem.W.findIn K (.ref C) pn = some none)
    (hgl : (defScope st).names.lookup ("list" : Str) = some .globalImplicit) (hml : mg "list" = none) :
    ∃ fd, FnOk P w K mg base CX0 2 f fd ["self", pn] (spErrL C pn) ∧ Binds K fd ["self", pn] [] := by
  refine sup_fn T S (fun vs H Q E h => ?_) hb fun A outer s H vs Q E hsp hroom s1 I => ?_
  · obtain ⟨a, l, xs, rfl, _⟩ := h
    rfl
  · obtain ⟨a, l, xs, rfl, ha, hl, h60, hsh, hQ⟩ := hsp
    have vN : Vis (ncx CX0 P w K mg base ["self", pn, "__class__"] (supNF qual st cda cc) f A outer s H E).env.scope pn := .inl (S.par _ (by simp))
    have vS : Vis (ncx CX0 P w K mg base ["self", pn, "__class__"] (supNF qual st cda cc) f A outer s H E).env.scope "self" := .inl (S.par _ (by simp))
    rw [hbd]
    refine two_run (te := fun σ H Q => tJs [tC (.str lit), tFmtL (tVar 1)] Str.empty σ H fun out H1 => Q (.str out) H1) T I rfl hks (S.frk _ (by simp)) (by rw [har2]; exact S.par _ (by simp)) har (by rw [har2]; rfl) rfl ha
      (pe_joined (.cons pe_str (.cons (pe_fmtL hroom.units (pe_var (i := 1) rfl vN hd1 hd2)) .nil)))
      (ps_ost (pe_var (i := 0) rfl vS) (pe_callTy call_list_of hgl hml (by decide +kernel) (pa_cons (pe_var (i := 1) rfl vN hd1 hd2) pa_nil))) ?_ (form_of _ hln) (by rfl) (by show ((defScope st).kind == _ && _) = false; rw [S.kind]; rfl)
    have e0 := lit_small hlit
    refine ⟨lit, rfl, by rw [sizeLine_eq]; omega, _, rfl, l, xs, rfl, hl, h60, hsh, fun y hy => ⟨y, rfl, ?_, Nat.le_refl _, ha, ?_⟩⟩
    · rw [Str.length_append, sizeLine_eq]
      omega
    · refine ⟨_, rfl, l, xs, rfl, .inl (SqL.of hl), fun c hc => ?_⟩
      have nca : c ≠ a := fun z => by
        rw [z, ha] at hc
        cases hc
      refine ⟨_, rfl, a, C, rfl, T.oex, hno, .inl ⟨by rw [upd_ne (Ne.symm nca)]; exact ha, fun dx h1 h2 => ?_⟩⟩
      have ndc : dx ≠ c := fun z => by
        rw [z, upd_same] at h1
        cases h1
      rw [upd_ne ndc] at h1
      exact hQ c dx hc h1 h2 nca ndc
end
section
variable {X : Cx} {x : Str} {C fI : Addr} {k : Nat} {fd : FuncData} {ps : List Str} {sp : Sp} {e : Expr} {es : List Expr} {ta : TA} {p pos : Pos}
/-- what follows where an own error has just been made, for positional values vs in the heap H1 -/
structure MkV (C : Addr) (sp : Sp) (vs : List V) (H1 : Hp) (Q : VK) : Prop where
  few : vs.length ≤ 1000
  run : ∀ a, H1 a = none → sp (.ref a :: vs) (upd H1 a (exo a C none)) (fun v H2 => v = .non ∧ Q (.ref a) H2) (fun _ _ _ => False)
theorem run_mkV {pins : List (Addr × Obj)} {σ : L2.St} {H1 : Hp} {s1 : Shared} {us : List Value} {vs : List V} {Q : VK} (T : OexC X.K C) (iC : PySem.W.findIn X.K (.ref C) "__init__" = some (some (.ref fI))) (tI : PySem.W.typeIn X.K (.ref fI) = some (.type "function"))
    (F1 : FnOk X.prog X.w X.K X.mg X.base CX0 k fI fd ps sp) (hr : Room (k + 1) X.A) (hb : Binds X.K fd ps []) (I1 : L2.Inv X pins σ H1 s1) (r1 : Vals vs us) (h : MkV C sp vs H1 Q) :
    wpAny (model X.prog X.w) X.A (call (.ref C) us) (EP X pins σ Q) X.xe s1 := by
  obtain ⟨nm, q, N, bs, bm, sn, sub, ab, col, dd, k0, k1, k2, k3, k5, hC, hbm⟩ := T.cls
  obtain ⟨hz, q1⟩ := h
  obtain ⟨hp, g, dr, tk, os⟩ := s1
  have hsz : hp.objs.size ≤ hp.objs.size + 1 := Nat.le_succ _
  have hn : H1 (hp.objs.size + 1) = none := I1.hok.fresh hsz
  have hq := q1 (hp.objs.size + 1) hn
  have kk : ∀ b o, hp.get? b = some o → ((hp.push (PySem.W.kdv_tup us)).push (PySem.HandSPX.excO C hp.objs.size)).get? b = some o :=
    fun b o z => Heap.get?_push_of_some _ (Heap.get?_push_of_some _ z)
  have hget : ((hp.push (PySem.W.kdv_tup us)).push (PySem.HandSPX.excO C hp.objs.size)).get? (hp.objs.size + 1) = some (PySem.HandSPX.excO C hp.objs.size) := by heap_get
  have I2 : L2.Inv X pins σ (upd H1 (hp.objs.size + 1) (exo (hp.objs.size + 1) C none)) ⟨(hp.push (PySem.W.kdv_tup us)).push (PySem.HandSPX.excO C hp.objs.size), g, dr, tk, os⟩ :=
    I1.laid (t' := tk) (a := hp.objs.size + 1) (o := exo (hp.objs.size + 1) C none)
      (h' := (hp.push (PySem.W.kdv_tup us)).push (PySem.HandSPX.excO C hp.objs.size)) kk hsz (exo_ok hget)
  have r2 : Vals (V.ref (hp.objs.size + 1) :: vs) (Value.ref (hp.objs.size + 1) :: us) := .cons rfl r1
  have hl : (Value.ref (hp.objs.size + 1) :: us).length = ps.length := by
    have e := r2.length
    rw [F1.len _ _ _ _ hq] at e
    exact e.symm
  have hus : us.length ≤ sizeLine := by
    rw [← Paired.length r1, sizeLine_eq]
    omega
  have hbd := hb _ (Value.ref (hp.objs.size + 1) :: us) I2.kIn (by rw [List.append_nil]; exact hl)
  rw [List.append_nil] at hbd
  refine wpAny_call (PySem.HandSPX.call_own F.excBase_ValueError (fun Y => PySem.HandSPX.refsVE_contains Y bm hbm) (I1.kIn _ _ hC) (PySem.W.looks_findIn I1.kIn iC) (fun self => PySem.W.bind_fn I1.kIn self tI) hus
    (codeAny_mono (F1.run _ X.stack _ _ ⟨Value.ref (hp.objs.size + 1) :: us, []⟩ (Value.ref (hp.objs.size + 1) :: us) _ _ (fun _ _ _ => False) (hr.make C us []) (I2.env0.make C us []) hbd r2 hq) fun r s' hq' => ?_))
  cases r with
  | error er => exact False.elim hq'
  | ok fl =>
    cases fl with
    | ret u =>
      obtain ⟨v, H2, os2, bare2, un2, hok2, rv, ev, q2⟩ := hq'
      subst ev
      have J := I2.call' (s' := s') (ch := []) os2 un2 hok2 bare2 (fun b z => absurd z (by simp))
      exact ⟨rv, .ref (hp.objs.size + 1), H2, J, rfl, q2⟩
    | next => exact False.elim hq'
    | brk => exact False.elim hq'
    | cont => exact False.elim hq'
theorem pe_mkV (T : OexC X.K C) (iC : PySem.W.findIn X.K (.ref C) "__init__" = some (some (.ref fI))) (tI : PySem.W.typeIn X.K (.ref fI) = some (.type "function"))
    (F1 : FnOk X.prog X.w X.K X.mg X.base CX0 k fI fd ps sp) (hr : Room (k + 1) X.A) (hb : Binds X.K fd ps []) (hg : Gl X x) (hm : X.mg x = some (.ref C)) (ha : PA X (e :: es) ta)
    (hdb : (x == ("__debug__" : Str)) = false := by decide) (he : starEach (e :: es) X.env = (false, eval e X.env) :: starEach es X.env := by rfl) (hpl : (backTo pos (starEach es X.env)).any (·.1) = false := by rfl) :
    PE X (.Call (.Name x p) (e :: es) [] pos) (fun σ H Q => ta σ H fun vs H1 => MkV C sp vs H1 Q) := by
  refine ⟨fun pins s σ H Q I h => ?_⟩
  refine wpAny_Call_Name_kw (ld_glob I hg hm ?_ hdb)
  refine PySem.W.callWith_K (h₀ := X.base) I.ok.mod.kin T.kC
    (thn (ha.run pos pins s σ H _ I h) fun us s1 ⟨vs, H1, I1, r1, q⟩ => ⟨I1.kIn, ?_⟩) he hpl
  exact run_mkV T iC tI F1 hr hb I1 r1 q
theorem pe_mkV0 (T : OexC X.K C) (iC : PySem.W.findIn X.K (.ref C) "__init__" = some (some (.ref fI))) (tI : PySem.W.typeIn X.K (.ref fI) = some (.type "function"))
    (F1 : FnOk X.prog X.w X.K X.mg X.base CX0 k fI fd ps sp) (hr : Room (k + 1) X.A) (hb : Binds X.K fd ps []) (hg : Gl X x) (hm : X.mg x = some (.ref C))
    (hdb : (x == ("__debug__" : Str)) = false := by decide) : PE X (.Call (.Name x p) [] [] pos) (fun σ H Q => MkV C sp [] H Q) := by
  refine ⟨fun pins s σ H Q I h => ?_⟩
  refine wpAny_Call_Name_kw (ld_glob I hg hm ?_ hdb)
  exact PySem.W.callWith_K0 I.kIn T.kC (run_mkV (us := []) T iC tI F1 hr hb I .nil h)
/-- what stands at a is an error of the class at C with these fields -/
def ErrAt (H : Hp) (a C : Addr) (fs : List (Str × V)) : Prop := (H a = some (exo a C none) ∧ fs = []) ∨ ∃ d, H a = some (exo a C (some d)) ∧ H d = some (exd d fs)
theorem ErrAt.inst {pins : List (Addr × Obj)} {σ : L2.St} {H : Hp} {s : Shared} {a : Addr} {fs : List (Str × V)} (I : L2.Inv X pins σ H s) (h : ErrAt H a C fs) :
    ∃ (ox : Obj) (od : Option Obj), PySem.W.InstAt s.heap a ox C od := by
  rcases h with ⟨h, _⟩ | ⟨d, h, hd⟩
  · obtain ⟨t, ho⟩ := exo_at I.hok h
    exact ⟨_, none, ho, rfl, rfl, trivial⟩
  · obtain ⟨t, ho⟩ := exo_at I.hok h
    obtain ⟨mA, hns, _⟩ := exd_at I.hok hd
    obtain ⟨ob, hob, _⟩ := lookIn_ns hns
    exact ⟨_, some ob, ho, rfl, rfl, hob⟩
end
end Sup

namespace Sup
open PySem PySem.Spec PyProof.Rows L2
/-- an own error, ready to be made -/
structure MkE (P : Program) (w : World) (K : PySem.W.Frag) (mg : Str → Option Value) (base : Heap) (nm : Str) (C : Addr) (sp : Sp) (ps : List Str) : Prop where
  oex : OexC K C
  g : mg nm = some (.ref C)
  run : ∃ (f : Addr) (fd : FuncData), PySem.W.findIn K (.ref C) "__init__" = some (some (.ref f)) ∧ PySem.W.typeIn K (.ref f) = some (.type "function") ∧ FnOk P w K mg base CX0 2 f fd ps sp ∧ Binds K fd ps []
section
variable {X : Cx} {nm : Str} {C : Addr} {sp : Sp} {ps : List Str} {e : Expr} {es : List Expr} {ta : TA} {p pos : Pos}
theorem pe_err (M : MkE X.prog X.w X.K X.mg X.base nm C sp ps) (hr : Room 3 X.A) (hg : Gl X nm) (ha : PA X (e :: es) ta)
    (hdb : (nm == ("__debug__" : Str)) = false := by decide) (he : starEach (e :: es) X.env = (false, eval e X.env) :: starEach es X.env := by rfl) (hpl : (backTo pos (starEach es X.env)).any (·.1) = false := by rfl) :
    PE X (.Call (.Name nm p) (e :: es) [] pos) (fun σ H Q => ta σ H fun vs H1 => MkV C sp vs H1 Q) := by
  obtain ⟨f, fd, h1, h2, h3, h4⟩ := M.run
  exact pe_mkV M.oex h1 h2 h3 hr h4 hg M.g ha hdb he hpl
theorem pe_err0 (M : MkE X.prog X.w X.K X.mg X.base nm C sp ps) (hr : Room 3 X.A) (hg : Gl X nm)
    (hdb : (nm == ("__debug__" : Str)) = false := by decide) : PE X (.Call (.Name nm p) [] [] pos) (fun σ H Q => MkV C sp [] H Q) := by
  obtain ⟨f, fd, h1, h2, h3, h4⟩ := M.run
  exact pe_mkV0 M.oex h1 h2 h3 hr h4 hg M.g hdb
end
theorem ErrAt.same {H H' : Hp} {a C : Addr} {fs : List (Str × V)} (h : ErrAt H a C fs) (s : Same H H') : ErrAt H' a C fs := by
  rcases h with ⟨h, e⟩ | ⟨d, h, hd⟩
  · exact .inl ⟨s _ _ h, e⟩
  · exact .inr ⟨d, s _ _ h, s _ _ hd⟩
/-- another object is written -/
theorem ErrAt.upd {H : Hp} {a C p : Addr} {fs : List (Str × V)} {xs : List V} {o : HO} (h : ErrAt H a C fs) (hp : H p = some (.lst xs)) : ErrAt (upd H p o) a C fs := by
  have key : ∀ {b : Addr} {φ : Heap → Prop}, H b = some (.ext φ) → b ≠ p := fun {b φ} e z => by
    rw [z, hp] at e
    cases e
  rcases h with ⟨h, e⟩ | ⟨d, h, hd⟩
  · exact .inl ⟨by rw [upd_ne (key h)]; exact h, e⟩
  · exact .inr ⟨d, by rw [upd_ne (key h)]; exact h, by rw [upd_ne (key hd)]; exact hd⟩
theorem mk_one {C : Addr} {fl : Str} {ok : V → Prop} {v : V} {H1 : Hp} {Q : VK} (hv : ok v) (h : ∀ (a : Addr) (H2 : Hp), H1 a = none → Same H1 H2 → ErrAt H2 a C [(fl, v)] → Q (.ref a) H2) : MkV C (spErr C fl ok) [v] H1 Q := by
  refine ⟨by show 1 ≤ 1000; omega, fun a hn => ⟨a, v, rfl, upd_same, hv, fun dx hdx hne => ⟨rfl, h a _ hn (fun b o e => ?_) (.inr ⟨dx, upd_same, by rw [upd_ne hne, upd_same]⟩)⟩⟩⟩
  rw [upd_ne hne] at hdx
  rw [upd_ne (ne_of_none e hn), upd_ne (ne_of_none e hdx), upd_ne (ne_of_none e hn)]
  exact e
theorem mk_nil {C : Addr} {H1 : Hp} {Q : VK} (h : ∀ (a : Addr) (H2 : Hp), H1 a = none → Same H1 H2 → ErrAt H2 a C [] → Q (.ref a) H2) : MkV C (spErr0 C) [] H1 Q := by
  refine ⟨Nat.zero_le _, fun a hn => ⟨a, rfl, upd_same, rfl, h a _ hn (fun b o e => ?_) (.inl ⟨upd_same, rfl⟩)⟩⟩
  rw [upd_ne (ne_of_none e hn)]
  exact e
theorem mk_lst {C l : Addr} {fl : Str} {xs : List V} {H1 : Hp} {Q : VK} (hl : H1 l = some (.lst xs)) (h60 : xs.length ≤ 60) (hs : Shown H1 xs)
    (h : ∀ (a c : Addr) (H2 : Hp), H1 a = none → H1 c = none → Same H1 H2 → H2 c = some (.lst xs) → ErrAt H2 a C [(fl, .ref c)] → Q (.ref a) H2) : MkV C (spErrL C fl) [.ref l] H1 Q := by
  refine ⟨by show 1 ≤ 1000; omega, fun a hn => ⟨a, l, xs, rfl, upd_same, by rw [upd_ne (ne_of_none hl hn)]; exact hl, h60, fun v hv => ?_, fun c dx hc hdx n1 n2 n3 => ⟨rfl, h a c _ hn ?_ (fun b o e => ?_) ?_ (.inr ⟨dx, upd_same, by rw [upd_ne n1, upd_same]⟩)⟩⟩⟩
  · rcases hs v hv with z | ⟨t, ns, e, ht, r⟩
    · exact .inl z
    · exact .inr ⟨t, ns, e, by rw [upd_ne (ne_of_none ht hn)]; exact ht, r⟩
  · rw [upd_ne n2] at hc
    exact hc
  · rw [upd_ne n2] at hc
    rw [upd_ne n1] at hdx
    rw [upd_ne (ne_of_none e hn), upd_ne (ne_of_none e hdx), upd_ne (ne_of_none e hc), upd_ne (ne_of_none e hn)]
    exact e
  · rw [upd_ne n2, upd_ne (Ne.symm n3), upd_same]
/-- e.f, e an error that stands in the heap -/
def tEx (K : PySem.W.Frag) (n : Str) (te : TE) : TE := fun σ H Q => te σ H fun x H1 => ∃ (a C : Addr) (fs : List (Str × V)) (v : V), x = .ref a ∧ XfC K C ∧ PySem.W.findIn K (.ref C) n = some none ∧ ErrAt H1 a C fs ∧ fs.lookup n = some v ∧ Q v H1
theorem pe_ex {X : Cx} {e : Expr} {te : TE} {pos : Pos} {n : Str} (he : PE X e te) (hb : attributeBase e n X.env (eval e X.env) = eval e X.env := by rfl) : PE X (.Attribute e n pos) (tEx X.K n te) := by
  refine ⟨fun pins s σ H Q I h => attr_of hb (thn (he.run pins s σ H _ I h) fun u s1 hh => ?_)⟩
  obtain ⟨x, H1, I1, rx, a, C, fs, v, rfl, T, hno, hE, hl, q⟩ := hh
  obtain rfl : u = Value.ref a := rx
  rcases hE with ⟨_, e0⟩ | ⟨d, h1, h2⟩
  · rw [e0] at hl
    cases hl
  · obtain ⟨t, ho⟩ := exo_at I1.hok h1
    obtain ⟨mA, hns, hrel⟩ := exd_at I1.hok h2
    obtain ⟨od, hod, hlk⟩ := lookIn_ns hns
    obtain ⟨u, hu, ru⟩ := RelO.some_of (v := v) (o := mA n) (by rw [← hl]; exact hrel n)
    have J : PySem.W.InstAt s1.heap a _ C (some od) := ⟨ho, rfl, rfl, hod⟩
    exact HandSPX.exc_get I1.kIn J T.ga T.gg T.exC (PySem.W.findObj_own T.hdC hno rfl (by rw [hlk, hu])) (handed_of ru) ⟨v, H1, I1.tok _, ru, q⟩
end Sup

namespace Law
open PySem PySem.Spec PyProof.Rows L2 Sup
/-! isinstance of a caught error that has its own dict -/
section
open PySem.W
variable {prog : Program} {w : World} {A : Around} {E : Value → Shared → Prop} {s : Shared} {K : Frag} {x D : Addr} {ox : Obj} {od : Option Obj}
theorem find_data {C : Addr} {nm : Str} {a g : Value} (h1 : (clsIn K C).isSome = true) (h2 : findIn K (.ref C) nm = some (some a)) (h3 : specialIn K a "__get__" = some (some g)) (h4 : takesIn K a = some true) :
    findObj K C od nm = some (.bind g a) := by
  obtain ⟨cd, hcd⟩ := Option.isSome_iff_exists.mp h1
  simp [findObj, hcd, h2, h3, h4]
theorem class_of_err (T : ExcC K D) {Q : Option Value → Shared → Prop} (X : K.In s.heap) (I : InstAt s.heap x ox D od) (h : Q (some (.ref D)) { s with toks := s.toks + 1 }) :
    wpAny (model prog w) A (getAttr? (.ref x) "__class__") Q E s := by
  have isS : (clsIn K D).isSome = true := by
    obtain ⟨cd, hcd, _⟩ := any_some T.hd
    rw [hcd]; rfl
  have hf : findObj K D od "__class__" = some (.bind (.builtin "getset_descriptor.__get__") (.builtin "object.__class__")) :=
    find_data isS T.ha T.hn T.ht
  obtain ⟨hp, g, d, t, os⟩ := s
  have M0 := I.type (M := model prog w)
  have M1 := looks_findIn (M := model prog w) X T.hg
  have M2 := looks_findIn (M := model prog w) X T.hk
  have M3 := looks_find (M := model prog w) X I hf
  have sub : Looks (model prog w) hp (isInstance (.ref x) (.type "BaseException")) true := M0.andThen (looks_subIn X T.hs)
  have n0 : (false && onTheHeap (Value.builtin "BaseException.__getattribute__")) = false := rfl
  have n1 : (onTheHeap (Value.ref D) && Value.builtin "BaseException.__getattribute__" == Value.builtin "object.__getattribute__") = false := by
    have z : (Value.builtin "BaseException.__getattribute__" == Value.builtin "object.__getattribute__") = false := by decide +kernel
    rw [z]; rfl
  unfold getAttr? getAttrBy? getAttrBy
  refine wpAny_bind (wpAny_mkText (wpAny_bind (wpAny_attempt (wpAny_holding (wpAny_bind (M0.at (wpAny_bind (M1.at ?_))))))))
  show wpAny _ _ (if (onTheHeap (Value.ref D) && Value.builtin "BaseException.__getattribute__" == Value.builtin "object.__getattribute__") = true
    then _ else _) _ _ _
  rw [n1, if_neg Bool.false_ne_true]
  unfold getAttrByItsOwn hookBefore
  refine wpAny_bind ?_
  rw [if_pos (show onTheHeap (Value.ref D) = true from rfl)]
  refine M2.at ?_
  refine wpAny_bind (wpAny_attempt (wpAny_holding ?_))
  unfold callGetattribute
  rw [n0, if_neg Bool.false_ne_true]
  unfold boundAndCalled
  rw [PySem.F.excAttr_ValueError.ga.bind (.ref x)]
  refine wpAny_bind (wpAny_pure ?_)
  show wpAny _ _ (call (.builtin "BaseException.__getattribute__")
    [.ref x, .str "__class__" t]) _ _ _
  refine wpAny_call (codeAny_call_builtin PySem.F.excAttr_ValueError.ga.plain PySem.F.entry_bexc_ga ?_)
  refine @check_slot (model prog w) _ _ ⟨hp, g, d, t + 1, os⟩ "BaseException.__getattribute__" "BaseException" "__getattribute__" (.ref x)
    [.str "__class__" t] [] _ (by decide +kernel) (by decide +kernel) sub (PySem.F.args_bexc_ga (.ref x) (.str "__class__" t)) ?_
  unfold Builtin.«object.__getattribute__»
  refine wpAny_bind (wpAny_of_eq (a := ((Value.ref x : Value), [Value.str "__class__" t])) (by first | rfl | (simp only [slotArgs]; rfl)) ?_)
  refine wpAny_bind (wpAny_pure (wpAny_bind (M0.at (wpAny_bind (M3.at ?_)))))
  show wpAny _ _ (holding [Value.builtin "object.__class__"] (call (.builtin "getset_descriptor.__get__")
    [.builtin "object.__class__", .ref x, .ref D]) >>= ret) _ _ _
  refine wpAny_bind (wpAny_holding (wpAny_call (class_get (s := ⟨hp, g, d, t + 1, os⟩) (ox := ox) (od := od) X I T.hm ?_)))
  refine wpAny_pure ?_
  show wpAny _ _ (handedOut (.ref D)) _ _ _
  rw [handedOut_of (v := .ref D) rfl]
  first
    | exact wpAny_pure (wpAny_pure h)
    | exact wpAny_pure h
    | exact wpAny_pure (wpAny_bind (wpAny_pure (wpAny_pure h)))
theorem kit_err (T : ExcC K D) : KitX K (.ref x) (.ref D) (fun h => ∃ od, InstAt h x ox D od) where
  ty := fun _ _ _ ⟨_, I⟩ => I.type
  it := fun _ _ X _ => by
    obtain ⟨cdD, hcD, _⟩ := any_some T.hd
    unfold clsIn at hcD
    split at hcD
    · rename_i ho
      intro A' Q' E' s' k q
      unfold isType loadHead
      exact wpAny_bind (wpAny_loadPart (k _ _ (X _ _ ho)) (wpAny_pure q))
    · cases hcD
  ne := fun h tp dd its n sl X htp => by
    obtain ⟨cdD, hcD, _⟩ := any_some T.hd
    unfold clsIn at hcD
    split at hcD
    · rename_i ho
      refine Bool.eq_false_iff.mpr fun q => ?_
      have e : D = tp := Value.ref.inj (beq_iff_eq.mp q)
      subst e
      have z := (X _ _ ho).symm.trans htp
      cases z
    · cases hcD
  ca := fun X I k => by
    obtain ⟨od, I⟩ := I
    exact class_of_err T X I k
end
/-- isinstance(e, c), e the exception that the suite holds, its own dict at d -/
def rIsD (K : PySem.W.Frag) (D a : Addr) (cls : Value) (d : Option Addr) : List V → Hp → VK → Prop := fun xs H Q =>
  ∃ (c : V) (cv : Value) (b : Bool) (dd : Addr) (fs : List (Str × V)), xs = [.ref a, c] ∧ cls = .ref D ∧ d = some dd ∧ H dd = some (.xd fs) ∧ (∀ u, RelV c u → u = cv) ∧ PySem.W.kitOne K (.ref D) cv = some b ∧ Q (.bl b) H
theorem call_isD {X : Cx} {a D : Addr} {oe : Obj} {cls : Value} {d : Option Addr} {pn : List (Addr × Obj)} (T : ExcC X.K D) (hz : Zc cls d oe) (hf : ∃ vs, oe.data = .fields vs) :
    CallR (X.suite a ((a, oe) :: pn)) (.builtin "isinstance") (rIsD X.K D a cls d) := by
  intro pins s σ H xs us Q I r h
  obtain ⟨c, cv, b, dd, fs, rfl, rfl, rfl, hd, hcv, e, q⟩ := h
  cases r with
  | cons rx rr =>
    cases rr with
    | cons rt rr =>
      cases rr
      cases rx
      have ec := hcv _ rt
      subst ec
      obtain ⟨hget, _⟩ := I.pin (a, oe) (List.mem_append.mpr (.inl List.mem_cons_self))
      obtain ⟨vs, hv⟩ := hf
      obtain ⟨mA, hns, _⟩ := (show ObjOk X.prog X.w H s.heap dd (.xd fs) from I.hok dd _ hd)
      obtain ⟨ob, ho, _⟩ := lookIn_ns hns
      have J : ∃ od, PySem.W.InstAt s.heap a oe D od := ⟨some ob, hget, hz.1, by unfold PySem.W.notCls; rw [hv], by rw [hz.2]; exact ho⟩
      exact PySem.W.kia_one (kit_err T) I.kIn J e (fun z => nomatch z) fun tk => ⟨.bl b, H, I.kept (t' := tk) fun _ _ z => z, rfl, q⟩
end Law

namespace Law
open PySem PySem.Spec PyProof.Rows L2 Sup
/-- isinstance(e, c), e an error that stands in the heap -/
def rIsX (K : PySem.W.Frag) : List V → Hp → VK → Prop := fun xs H Q => ∃ (a D : Addr) (fs : List (Str × V)) (c : V) (cv : Value) (b : Bool), xs = [.ref a, c] ∧ ExcC K D ∧ ErrAt H a D fs ∧ (∀ u, RelV c u → u = cv) ∧ PySem.W.kitOne K (.ref D) cv = some b ∧ Q (.bl b) H
theorem call_isX {X : Cx} : CallR X (.builtin "isinstance") (rIsX X.K) := by
  intro pins s σ H xs us Q I r h
  obtain ⟨a, D, fs, c, cv, b, rfl, T, hE, hcv, e, q⟩ := h
  obtain ⟨u1, u2, rfl, r1, r2⟩ := vals2 r
  cases (show u1 = Value.ref a from r1)
  have ec := hcv _ r2
  subst ec
  obtain ⟨ox, od, J⟩ := hE.inst (C := D) I
  exact PySem.W.kia_one (kit_err T) I.kIn ⟨od, J⟩ e (fun z => nomatch z) fun tk => ⟨.bl b, H, I.tok tk, rfl, q⟩
end Law

namespace Law
open PySem PySem.Spec PyProof.Rows L2
def top (i : Nat) : Stmt := PySem.Challenge.pw_rungbounds_k57_errors_and_their_fields.main.body.getD i (.Pass ⟨0, 0, 0, 0⟩)
abbrev sBox : Stmt := top 17
abbrev sTake : Stmt := top 18
abbrev sNum : Stmt := top 19
/-- the box at b: the cells in the list at l, the place, what is left of a great cell, the seed -/
def Box (H : Hp) (b l : Addr) : Prop := ∃ (ns : List Int) (i : Nat) (q s : Int), H b = some (.lst [.ref l, .int i, .int q, .int s]) ∧ H l = some (.lst (ns.map V.int)) ∧ ns.length ≤ 63
theorem Box.ne {H : Hp} {b l : Addr} (B : Box H b l) : l ≠ b := fun z => by
  obtain ⟨ns, i, q, s, h1, h2, _⟩ := B
  rw [z, h1] at h2
  have e := HO.lst.inj (Option.some.inj h2)
  cases ns with
  | nil => cases e
  | cons n ns => cases e
theorem Box.keep {H H' : Hp} {b l : Addr} (B : Box H b l) (k : ∀ c, c = b ∨ c = l → H' c = H c) : Box H' b l := by
  obtain ⟨ns, i, q, s, h1, h2, h3⟩ := B
  exact ⟨ns, i, q, s, (k b (.inl rfl)).trans h1, (k l (.inr rfl)).trans h2, h3⟩
/-- a draw: 0 ≤ r < size; nothing but the box has changed -/
def spTake : Sp := fun vs H Q _ => ∃ (b l : Addr) (n : Int), vs = [.ref b, .int n] ∧ Box H b l ∧ 0 < n ∧ n.natAbs < 2 ^ 8000 ∧
  ∀ (r : Int) (H' : Hp), 0 ≤ r → r < n → Box H' b l → (∀ c, c ≠ b → H' c = H c) → Q (.int r) H'
def spBox (K : PySem.W.Frag) : Sp := fun vs H Q _ => ∃ (a : Addr) (ns : List Int), vs = [.ref a] ∧ SqL K H a (ns.map V.int) ∧ ns.length ≤ 63 ∧
  ∀ (b l : Addr) (H' : Hp), Box H' b l → H b = none → H l = none → Same H H' → Q (.ref b) H'
structure BoxTxt (K : PySem.W.Frag) (mg : Str → Option Value) : Prop where
  len : mg "len" = none
  int : mg "int" = none
section
variable {P : Program} {w : World} {K : PySem.W.Frag} {mg : Str → Option Value} {base : Heap}
theorem scTake : FnScope ["_law_box_here", "_law_size", "_law_cell", "_law_digit"] ["_law_box_here", "_law_size"] (defScope sTake) := ⟨rfl, rfl, rfl, by decide +kernel, rfl, by decide +kernel, by decide +kernel⟩
theorem if_t {c : Bool} {A B : Prop} (hc : c = true) (h : A) : if c = true then A else B := by
  rw [hc]
  exact h
theorem if_f {c : Bool} {A B : Prop} (hc : c = false) (h : B) : if c = true then A else B := by
  rw [hc]
  exact h
theorem pow18 : CPow 10 18 := ⟨by decide, by decide, by decide⟩
theorem at_box {l : Addr} {i q s : Int} : atI [V.ref l, .int i, .int q, .int s] 0 = some (.ref l) ∧ atI [V.ref l, .int i, .int q, .int s] 1 = some (.int i) ∧ atI [V.ref l, .int i, .int q, .int s] 2 = some (.int q) ∧ atI [V.ref l, .int i, .int q, .int s] 3 = some (.int s) := ⟨rfl, rfl, rfl, rfl⟩
theorem ok_take {f : Addr} {fd : FuncData} (F : Fun K "_law_take" "_law_take" sTake f fd) (T : BoxTxt K mg) : FnOk P w K mg base CX0 1 f fd ["_law_box_here", "_law_size"] spTake := by
  refine F.ok scTake (fun vs H Q E h => ?_) (fun cdv A outer s H vs Q E hr h => ?_)
  · obtain ⟨b, l, n, rfl, _⟩ := h
    rfl
  · obtain ⟨b, l, n, rfl, B, hn0, hn1, k⟩ := h
    refine ⟨_, C8.pss_cut (ps_if (PW.pt (pw_and (pt_cmpR op_lt (pe_ix ix_list (pv 0) pe_int (fun _ _ => rfl)) pe_int (nomark _))
          (pw_and1 (pt_cmpR op_lt (pe_ix ix_list (pv 0) pe_int (fun _ _ => rfl)) (pe_callB call_len_seq (by rfl) T.len PySem.boot_len (pa_cons (pe_ix ix_list (pv 0) pe_int (fun _ _ => rfl)) pa_nil)) (nomark _)))))
        (pss_cons (ps_set (i := 2) scTake.nd rfl (Or.inl rfl) (pe_ix ix_list (pe_ix ix_list (pv 0) pe_int (fun _ _ => rfl)) (pe_ix ix_list (pv 0) pe_int (fun _ _ => rfl)) (fun _ _ => rfl)))
        (pss_cons (ps_asg (pe_op op_add (pe_ix ix_list (pv 0) pe_int (fun _ _ => rfl)) pe_int) (pg_sub (pv 0) pe_int set_list))
        (pss_one (ps_if (pt_cmpR op_ge (pv 2) (pe_op op_pow pe_int pe_int) (nomark _))
          (pss_one (ps_asg (pe_op op_sub (pv 2) (pe_op op_pow pe_int pe_int)) (pg_sub (pv 0) pe_int set_list)))
          (pss_one (ps_asg (pe_op op_mod (pe_callTy call_int1 (by rfl) T.int (by decide +kernel) (pa_cons (pe_op op_add (pe_op op_add (pe_op op_mul (pe_ix ix_list (pv 0) pe_int (fun _ _ => rfl)) pe_int) (pe_op op_mul (pv 2) pe_int)) pe_int) pa_nil)) pe_int) (pg_sub (pv 0) pe_int set_list)))))))
        pss_nil)
      (pss_cons (ps_if (pt_cmpR op_gt (pe_ix ix_list (pv 0) pe_int (fun _ _ => rfl)) pe_int (nomark _))
        (pss_cons (ps_set (i := 3) scTake.nd rfl (Or.inl rfl) (pe_op op_mod (pe_callTy call_int1 (by rfl) T.int (by decide +kernel) (pa_cons (pe_ix ix_list (pv 0) pe_int (fun _ _ => rfl)) pa_nil)) (pv 1)))
        (pss_cons (ps_asg (pe_op op_fdivW (pe_ix ix_list (pv 0) pe_int (fun _ _ => rfl)) (pv 1)) (pg_sub (pv 0) pe_int set_list))
        (pss_one (ps_ret (pv 3))))) pss_nil)
      (pss_cons (ps_asg (pe_op op_mod (pe_callTy call_int1 (by rfl) T.int (by decide +kernel) (pa_cons (pe_op op_mul (pe_ix ix_list (pv 0) pe_int (fun _ _ => rfl)) pe_int) pa_nil)) pe_int) (pg_sub (pv 0) pe_int set_list))
      (pss_one (ps_ret (pe_op op_mod (pe_callTy call_int1 (by rfl) T.int (by decide +kernel) (pa_cons (pe_op op_fdiv (pe_ix ix_list (pv 0) pe_int (fun _ _ => rfl)) pe_int) pa_nil)) (pv 1)))))), ?_⟩
    obtain ⟨ns, i, q, sd, hb, hl, h63⟩ := id B
    have hne := B.ne
    have keepB : ∀ {H' : Hp} {i' : Nat} {q' s' : Int}, H' b = some (.lst [.ref l, .int i', .int q', .int s']) → (∀ c, c ≠ b → H' c = H c) → Box H' b l :=
      fun {H' i' q' s'} h1 h2 => ⟨ns, i', q', s', h1, (h2 l hne).trans hl, h63⟩
    refine ⟨fun σ' H' => ∃ (v : Option V) (i' : Nat) (q' s' : Int), σ' = [some (.ref b), some (.int n), v, none] ∧ H' b = some (.lst [.ref l, .int i', .int q', .int s']) ∧ ∀ c, c ≠ b → H' c = H c, ?_, ?_⟩
    · -- a new cell is read, or not
      refine ⟨_, rfl, b, _, _, _, rfl, rfl, SqL.of hb, at_box.2.2.1, _, _, rfl, rfl, _, rfl, ?_⟩
      by_cases c1 : q < 1
      · refine if_t (decide_eq_true c1) ?_
        refine ⟨_, rfl, b, _, _, _, rfl, rfl, SqL.of hb, at_box.2.1, _, rfl, b, _, _, _, rfl, rfl, SqL.of hb, at_box.1, l, _, rfl, .inl (SqL.of hl), _, _, rfl, rfl, _, rfl, ?_⟩
        by_cases c2 : (i : Int) < ((ns.map V.int).length : Int)
        · refine if_t (decide_eq_true c2) ?_
          rw [List.length_map] at c2
          obtain ⟨z, hz⟩ : ∃ z, ns[i]? = some z := ⟨_, List.getElem?_eq_getElem (by omega)⟩
          have hz' : atI (ns.map V.int) (i : Int) = some (V.int z) := atI_nat (by rw [List.getElem?_map, hz]; rfl)
          refine ⟨_, rfl, b, _, _, _, rfl, rfl, SqL.of hb, at_box.1, _, rfl, b, _, _, _, rfl, rfl, SqL.of hb, at_box.2.1, l, _, _, _, rfl, rfl, SqL.of hl, hz', ?_⟩
          refine ⟨_, rfl, b, _, _, _, rfl, rfl, SqL.of hb, at_box.2.1, _, _, rfl, rfl, _, rfl, b, _, _, 1, rfl, rfl, hb, rfl, ?_⟩
          have h1 : ∀ (o : HO), upd H b o b = some o := fun o => upd_same
          have hc : ∀ (o : HO) c, c ≠ b → upd H b o c = H c := fun o c hc => upd_ne hc
          refine ⟨_, rfl, _, _, rfl, rfl, pow18, _, _, rfl, rfl, _, rfl, ?_⟩
          refine ite2 (fun _ => ?_) fun _ => ?_
          · refine ⟨_, rfl, _, _, rfl, rfl, pow18, _, _, rfl, rfl, _, rfl, b, _, _, 2, rfl, rfl, h1 _, rfl, ?_⟩
            exact ⟨some (.int z), i + 1, _, sd, rfl, upd_same, fun c hc' => by rw [upd_ne hc', upd_ne hc']⟩
          · refine ⟨_, rfl, b, _, _, _, rfl, rfl, SqL.of (h1 _), at_box.2.2.2, _, _, rfl, rfl, .inr ⟨by decide, by decide⟩, _, rfl, _, _, rfl, rfl, .inr ⟨by decide, by decide⟩, _, _, rfl, rfl, _, _, rfl, rfl, .inl ⟨_, rfl, _, _, rfl, rfl, (by show (0 : Int) < 2147483647; decide), _, rfl, b, _, _, 3, rfl, rfl, h1 _, rfl, ?_⟩⟩
            exact ⟨some (.int z), i + 1, q, _, rfl, upd_same, fun c hc' => by rw [upd_ne hc', upd_ne hc']⟩
        · refine if_f (decide_eq_false c2) ?_
          exact ⟨none, i, q, sd, rfl, hb, fun _ _ => rfl⟩
      · refine if_f (decide_eq_false c1) ?_
        exact ⟨none, i, q, sd, rfl, hb, fun _ _ => rfl⟩
    · rintro σ' H' ⟨v, i', q', s', rfl, hb', ho⟩
      refine ⟨_, rfl, b, _, _, _, rfl, rfl, SqL.of hb', at_box.2.2.1, _, _, rfl, rfl, _, rfl, ?_⟩
      refine ite2 (fun _ => ?_) fun _ => ?_
      · refine ⟨_, rfl, b, _, _, _, rfl, rfl, SqL.of hb', at_box.2.2.1, .inl ⟨_, rfl, _, rfl, _, _, rfl, rfl, hn0, ?_⟩⟩
        refine ⟨_, rfl, b, _, _, _, rfl, rfl, SqL.of hb', at_box.2.2.1, _, rfl, _, _, rfl, rfl, wide_div hn0 hn1 (by decide) (by decide), _, rfl, b, _, _, 2, rfl, rfl, hb', rfl, _, rfl, ?_⟩
        exact k _ _ (Int.emod_nonneg _ (by omega)) (Int.emod_lt_of_pos _ hn0) (keepB (q' := q' / n) upd_same fun c hc => (upd_ne hc).trans (ho c hc)) fun c hc => (upd_ne hc).trans (ho c hc)
      · refine ⟨_, rfl, b, _, _, _, rfl, rfl, SqL.of hb', at_box.2.2.2, _, _, rfl, rfl, .inr ⟨by decide, by decide⟩, .inl ⟨_, rfl, _, _, rfl, rfl, (by show (0 : Int) < 2147483647; decide), _, rfl, b, _, _, 3, rfl, rfl, hb', rfl, ?_⟩⟩
        refine ⟨_, rfl, b, _, _, _, rfl, rfl, SqL.of upd_same, at_box.2.2.2, _, _, rfl, rfl, ⟨by decide, by decide⟩, .inl ⟨_, rfl, _, rfl, _, _, rfl, rfl, hn0, ?_⟩⟩
        exact k _ _ (Int.emod_nonneg _ (by omega)) (Int.emod_lt_of_pos _ hn0) (keepB upd_same fun c hc => (upd_ne hc).trans (ho c hc)) fun c hc => (upd_ne hc).trans (ho c hc)

theorem cut63 {xs : List V} (h : xs.length ≤ 63) : cutV xs none (some 63) = xs := by
  unfold cutV
  have e0 : HT.sIx xs.length 0 none = 0 := rfl
  have e1 : HT.sIx xs.length xs.length (some 63) = xs.length := by
    unfold HT.sIx
    simp
    omega
  rw [e0, e1, List.drop_zero, Nat.sub_zero, List.take_length]
theorem scBox : FnScope ["_law_script", "_law_cell"] ["_law_script"] (defScope sBox) := ⟨rfl, rfl, rfl, by decide +kernel, rfl, by decide +kernel, by decide +kernel⟩
theorem ok_box {f : Addr} {fd : FuncData} (F : Fun K "_law_box" "_law_box" sBox f fd) (T : BoxTxt K mg) : FnOk P w K mg base CX0 1 f fd ["_law_script"] (spBox K) := by
  refine F.ok scBox (fun vs H Q E h => ?_) (fun cdv A outer s H vs Q E hr h => ?_)
  · obtain ⟨a, ns, rfl, _⟩ := h
    rfl
  · obtain ⟨a, ns, rfl, hS, h63, k⟩ := h
    refine ⟨_, pss_one (ps_ret (pe_lst (pa_cons (pe_lc (own := [("_law_cell", 1)]) (g := gName 1) (tt := tYes) (by rfl) scBox.nd (pi_list (pe_slice sl_list (pv 0) po_none (po_some pe_int)))
        (blkOk_by (own := [("_law_cell", 1)]) (N := ["_law_script", "_law_cell"]) (sc := defScope sBox) (by decide +kernel)) (fun _ _ _ _ _ => pg_name (i := 1) scBox.nd rfl (Or.inl rfl)) (fun _ _ _ _ _ => pts_nil)
        (fun _ _ _ _ _ => pe_callTy call_int1 (by rfl) T.int (by decide +kernel) (pa_cons (pv 1) pa_nil))) (pa_cons pe_int (pa_cons pe_int (pa_cons pe_int pa_nil)))))), ?_⟩
    have e63 : cutV (ns.map V.int) none (some 63) = ns.map V.int := cut63 (by rw [List.length_map]; exact h63)
    refine ⟨_, rfl, 63, rfl, a, _, rfl, hS, fun p hp => ?_⟩
    rw [e63]
    refine ⟨p, rfl, ⟨_, SqL.of upd_same⟩, fun D hD => ?_⟩
    have hpD : p ≠ D := fun z => by
      rw [z, upd_same] at hD
      cases hD
    have hD0 : H D = none := by rw [upd_ne (Ne.symm hpD)] at hD; exact hD
    refine lc_list (K := K) (a := p) (xs := ns.map V.int) (fun i H' => H' D = some (.lst ((ns.take i).map V.int)) ∧ H' p = some (.lst (ns.map V.int)) ∧ ∀ c, c ≠ D → c ≠ p → H' c = H c)
      ⟨upd_same, by rw [upd_ne hpD, upd_same], fun c h1 h2 => by rw [upd_ne h1, upd_ne h2]⟩ (fun i H' _ h => SqL.of h.2.1) ?_ ?_
    · rintro i y H' hi ⟨g1, g2, g3⟩
      obtain ⟨z, hz, rfl⟩ : ∃ z, ns[i]? = some z ∧ y = V.int z := by
        rw [List.getElem?_map] at hi
        cases e : ns[i]? with
        | none =>
          rw [e] at hi
          cases hi
        | some z =>
          rw [e] at hi
          exact ⟨z, rfl, (Option.some.inj hi).symm⟩
      refine ⟨rfl, ?_⟩
      have step : ∃ acc, H' D = some (.lst acc) ∧ acc.length < sizeLine ∧ (upd H' D (.lst (acc ++ [V.int z]))) D = some (.lst ((ns.take (i + 1)).map V.int)) ∧ (upd H' D (.lst (acc ++ [V.int z]))) p = some (.lst (ns.map V.int)) ∧
          ∀ c, c ≠ D → c ≠ p → (upd H' D (.lst (acc ++ [V.int z]))) c = H c := by
        refine ⟨_, g1, ?_, ?_⟩
        · rw [List.length_map, List.length_take]
          exact small1000 (by omega)
        · refine ⟨?_, by rw [upd_ne hpD]; exact g2, fun c h1 h2 => by rw [upd_ne h1]; exact g3 c h1 h2⟩
          rw [upd_same, List.take_succ, hz, Option.toList_some, List.map_append]
          rfl
      exact ⟨V.int z, rfl, .inl ⟨z, rfl, step⟩⟩
    · rintro H' ⟨g1, g2, g3⟩
      rw [List.length_map, List.take_length] at g1
      refine ⟨(by show 4 ≤ sizeLine; decide), fun b hb => ?_⟩
      have hDb : D ≠ b := ne_of_none g1 hb
      have hpb : p ≠ b := ne_of_none g2 hb
      refine k b D _ ⟨ns, 0, 0, 0, upd_same, by rw [upd_ne hDb]; exact g1, h63⟩ (by rw [← g3 b (Ne.symm hDb) (Ne.symm hpb)]; exact hb) hD0 fun c o hc => ?_
      have n1 : c ≠ D := ne_of_none hc hD0
      have n2 : c ≠ p := ne_of_none hc hp
      have n3 : c ≠ b := fun z => by
        rw [z, ← g3 b (Ne.symm hDb) (Ne.symm hpb), hb] at hc
        cases hc
      rw [upd_ne n3, g3 c n1 n2]
      exact hc
theorem scNum : FnScope ["_law_x"] ["_law_x"] (defScope sNum) := ⟨rfl, rfl, rfl, by decide +kernel, rfl, by decide +kernel, by decide +kernel⟩
def spNum : Sp := fun vs H Q _ => ∃ i : Int, vs = [.int i] ∧ Q (.bl true) H
structure NumTxt (mg : Str → Option Value) : Prop where
  isi : mg "isinstance" = none
  int : mg "int" = none
  bool : mg "bool" = none
theorem ok_num {f : Addr} {fd : FuncData} (F : Fun K "_law_number" "_law_number" sNum f fd) (T : NumTxt mg) : FnOk P w K mg base CX0 1 f fd ["_law_x"] spNum := by
  refine F.ok scNum (fun vs H Q E h => ?_) (fun cdv A outer s H vs Q E hr h => ?_)
  · obtain ⟨i, rfl, _⟩ := h
    rfl
  · obtain ⟨i, rfl, k⟩ := h
    refine ⟨_, pss_one (ps_ret (pe_and (pe_callB call_isi (by rfl) T.isi (by decide +kernel) (pa_cons (pv 0) (pa_cons (pe_bltn (v := .ty "int") (by rfl) T.int (by decide +kernel) rfl) pa_nil)))
      (pe_one (pe_not (pe_callB call_isi (by rfl) T.isi (by decide +kernel) (pa_cons (pv 0) (pa_cons (pe_bltn (v := .ty "bool") (by rfl) T.bool (by decide +kernel) rfl) pa_nil))))))), ?_⟩
    refine ⟨_, rfl, V.int i, .ty "int", .type "int", .type "int", true, rfl, .ty _, .base (.int i), by rfl, true, rfl, ?_⟩
    refine if_t rfl ⟨_, rfl, V.int i, .ty "bool", .type "int", .type "bool", false, rfl, .ty _, .base (.int i), by rfl, false, rfl, k⟩
end
end Law

namespace Law
open PySem PySem.Spec PyProof.Rows L2 Sup
abbrev sCls : Stmt := top 20
abbrev sBsd : Stmt := top 21
/-- what is told of the class at D, the one of number j in the table cs -/
structure KD (K : PySem.W.Frag) (cs : Nat → Addr) (LE : Addr) (j : Nat) (D : Addr) : Prop where
  ex : ExcC K D
  kit : ∀ i, i < 14 → PySem.W.kitOne K (.ref D) (.ref (cs i)) = some (decide (i = j))
  le : PySem.W.kitOne K (.ref D) (.ref LE) = some true
  ve : PySem.W.kitOne K (.ref D) (.type "ValueError") = some true
structure ClsTxt (mg : Str → Option Value) (cs : Nat → Addr) (LE : Addr) : Prop where
  g_BadNumber : mg "BadNumber" = some (.ref (cs 0))
  g_BadName : mg "BadName" = some (.ref (cs 1))
  g_TakenName : mg "TakenName" = some (.ref (cs 2))
  g_UnknownName : mg "UnknownName" = some (.ref (cs 3))
  g_NoPlace : mg "NoPlace" = some (.ref (cs 4))
  g_TooMany : mg "TooMany" = some (.ref (cs 5))
  g_NoSite : mg "NoSite" = some (.ref (cs 6))
  g_NoShape : mg "NoShape" = some (.ref (cs 7))
  g_BadState : mg "BadState" = some (.ref (cs 8))
  g_BadLine : mg "BadLine" = some (.ref (cs 9))
  g_DeedFailed : mg "DeedFailed" = some (.ref (cs 10))
  g_OtherSite : mg "OtherSite" = some (.ref (cs 11))
  g_NothingToUndo : mg "NothingToUndo" = some (.ref (cs 12))
  g_NothingToRedo : mg "NothingToRedo" = some (.ref (cs 13))
  g_LE : mg "LadderError" = some (.ref LE)
  ve : mg "ValueError" = none
  isi : mg "isinstance" = none
  len : mg "len" = none
  range : mg "range" = none
def spCls (K : PySem.W.Frag) (cs : Nat → Addr) (LE : Addr) : Sp := fun vs H Q _ => ∃ (a D : Addr) (j : Nat) (fs : List (Str × V)), vs = [.ref a] ∧ ErrAt H a D fs ∧ KD K cs LE j D ∧ j < 14 ∧
  ∀ r H', H r = none → Same H H' → H' r = some (.lst [.int j]) → Q (.ref r) H'
def spBsd (K : PySem.W.Frag) (cs : Nat → Addr) (LE : Addr) : Sp := fun vs H Q _ => ∃ (p : Addr) (es : List Addr), vs = [.ref p] ∧ H p = some (.lst (es.map V.ref)) ∧ es.length = 14 ∧
  (∀ i a, es[i]? = some a → ∃ D fs, ErrAt H a D fs ∧ KD K cs LE i D) ∧ ∀ H', Same H H' → Q (.bl true) H'
theorem small60 {n : Nat} (h : n ≤ 60) : n < sizeLine := small1000 (by omega)
section
variable {P : Program} {w : World} {K : PySem.W.Frag} {mg : Str → Option Value} {base : Heap} {cs : Nat → Addr} {LE : Addr}
theorem scCls : FnScope ["_law_error", "_law_found", "_law_k"] ["_law_error"] (defScope sCls) := ⟨rfl, rfl, rfl, by decide +kernel, rfl, by decide +kernel, by decide +kernel⟩
def bits (j : Nat) (n : Nat) : List V := (List.range n).map fun i => V.bl (decide (i = j))
theorem bits_step {j n : Nat} : bits j n ++ [V.bl (decide (n = j))] = bits j (n + 1) := by
  unfold bits
  rw [List.range_succ, List.map_append]
  rfl
set_option maxHeartbeats 0 in
theorem ok_cls {f : Addr} {fd : FuncData} (F : Fun K "_law_classes" "_law_classes" sCls f fd) (T : ClsTxt mg cs LE) : FnOk P w K mg base CX0 1 f fd ["_law_error"] (spCls K cs LE) := by
  refine F.ok scCls (fun vs H Q E h => ?_) (fun cdv A outer s H vs Q E hr h => ?_)
  · obtain ⟨a, D, j, fs, rfl, _⟩ := h
    rfl
  · obtain ⟨a, D, j, fs, rfl, E0, kd, hj, k⟩ := h
    refine ⟨_, (pss_cons (ps_set (i := 1) scCls.nd rfl (Or.inr rfl) (pe_lst pa_nil))
      (pss_cons (ps_expr (pe_bm PySem.F.plainAttrs_list PySem.F.slot_list_append PySem.F.type_list_append mt_append (pv 1) (pa_cons (pe_callB call_isX (by rfl) T.isi (by decide +kernel) (pa_cons (pv 0) (pa_cons (pe_glob (v := .ref (cs 0)) rfl T.g_BadNumber rfl) pa_nil))) pa_nil)))
      (pss_cons (ps_expr (pe_bm PySem.F.plainAttrs_list PySem.F.slot_list_append PySem.F.type_list_append mt_append (pv 1) (pa_cons (pe_callB call_isX (by rfl) T.isi (by decide +kernel) (pa_cons (pv 0) (pa_cons (pe_glob (v := .ref (cs 1)) rfl T.g_BadName rfl) pa_nil))) pa_nil)))
      (pss_cons (ps_expr (pe_bm PySem.F.plainAttrs_list PySem.F.slot_list_append PySem.F.type_list_append mt_append (pv 1) (pa_cons (pe_callB call_isX (by rfl) T.isi (by decide +kernel) (pa_cons (pv 0) (pa_cons (pe_glob (v := .ref (cs 2)) rfl T.g_TakenName rfl) pa_nil))) pa_nil)))
      (pss_cons (ps_expr (pe_bm PySem.F.plainAttrs_list PySem.F.slot_list_append PySem.F.type_list_append mt_append (pv 1) (pa_cons (pe_callB call_isX (by rfl) T.isi (by decide +kernel) (pa_cons (pv 0) (pa_cons (pe_glob (v := .ref (cs 3)) rfl T.g_UnknownName rfl) pa_nil))) pa_nil)))
      (pss_cons (ps_expr (pe_bm PySem.F.plainAttrs_list PySem.F.slot_list_append PySem.F.type_list_append mt_append (pv 1) (pa_cons (pe_callB call_isX (by rfl) T.isi (by decide +kernel) (pa_cons (pv 0) (pa_cons (pe_glob (v := .ref (cs 4)) rfl T.g_NoPlace rfl) pa_nil))) pa_nil)))
      (pss_cons (ps_expr (pe_bm PySem.F.plainAttrs_list PySem.F.slot_list_append PySem.F.type_list_append mt_append (pv 1) (pa_cons (pe_callB call_isX (by rfl) T.isi (by decide +kernel) (pa_cons (pv 0) (pa_cons (pe_glob (v := .ref (cs 5)) rfl T.g_TooMany rfl) pa_nil))) pa_nil)))
      (pss_cons (ps_expr (pe_bm PySem.F.plainAttrs_list PySem.F.slot_list_append PySem.F.type_list_append mt_append (pv 1) (pa_cons (pe_callB call_isX (by rfl) T.isi (by decide +kernel) (pa_cons (pv 0) (pa_cons (pe_glob (v := .ref (cs 6)) rfl T.g_NoSite rfl) pa_nil))) pa_nil)))
      (pss_cons (ps_expr (pe_bm PySem.F.plainAttrs_list PySem.F.slot_list_append PySem.F.type_list_append mt_append (pv 1) (pa_cons (pe_callB call_isX (by rfl) T.isi (by decide +kernel) (pa_cons (pv 0) (pa_cons (pe_glob (v := .ref (cs 7)) rfl T.g_NoShape rfl) pa_nil))) pa_nil)))
      (pss_cons (ps_expr (pe_bm PySem.F.plainAttrs_list PySem.F.slot_list_append PySem.F.type_list_append mt_append (pv 1) (pa_cons (pe_callB call_isX (by rfl) T.isi (by decide +kernel) (pa_cons (pv 0) (pa_cons (pe_glob (v := .ref (cs 8)) rfl T.g_BadState rfl) pa_nil))) pa_nil)))
      (pss_cons (ps_expr (pe_bm PySem.F.plainAttrs_list PySem.F.slot_list_append PySem.F.type_list_append mt_append (pv 1) (pa_cons (pe_callB call_isX (by rfl) T.isi (by decide +kernel) (pa_cons (pv 0) (pa_cons (pe_glob (v := .ref (cs 9)) rfl T.g_BadLine rfl) pa_nil))) pa_nil)))
      (pss_cons (ps_expr (pe_bm PySem.F.plainAttrs_list PySem.F.slot_list_append PySem.F.type_list_append mt_append (pv 1) (pa_cons (pe_callB call_isX (by rfl) T.isi (by decide +kernel) (pa_cons (pv 0) (pa_cons (pe_glob (v := .ref (cs 10)) rfl T.g_DeedFailed rfl) pa_nil))) pa_nil)))
      (pss_cons (ps_expr (pe_bm PySem.F.plainAttrs_list PySem.F.slot_list_append PySem.F.type_list_append mt_append (pv 1) (pa_cons (pe_callB call_isX (by rfl) T.isi (by decide +kernel) (pa_cons (pv 0) (pa_cons (pe_glob (v := .ref (cs 11)) rfl T.g_OtherSite rfl) pa_nil))) pa_nil)))
      (pss_cons (ps_expr (pe_bm PySem.F.plainAttrs_list PySem.F.slot_list_append PySem.F.type_list_append mt_append (pv 1) (pa_cons (pe_callB call_isX (by rfl) T.isi (by decide +kernel) (pa_cons (pv 0) (pa_cons (pe_glob (v := .ref (cs 12)) rfl T.g_NothingToUndo rfl) pa_nil))) pa_nil)))
      (pss_cons (ps_expr (pe_bm PySem.F.plainAttrs_list PySem.F.slot_list_append PySem.F.type_list_append mt_append (pv 1) (pa_cons (pe_callB call_isX (by rfl) T.isi (by decide +kernel) (pa_cons (pv 0) (pa_cons (pe_glob (v := .ref (cs 13)) rfl T.g_NothingToRedo rfl) pa_nil))) pa_nil)))
      (pss_one (ps_ret (pe_lc (own := [("_law_k", 2)]) (g := gName 2) (by rfl) scCls.nd (pi_range1 (by rfl) T.range (pa_cons (pe_callB call_len_seq (by rfl) T.len PySem.boot_len (pa_cons (pv 1) pa_nil)) pa_nil)) (blkOk_by (own := [("_law_k", 2)]) (N := ["_law_error", "_law_found", "_law_k"]) (sc := defScope sCls) (by decide +kernel)) (fun _ _ _ _ _ => pg_name (i := 2) scCls.nd rfl (Or.inl rfl)) (fun _ _ _ _ _ => (pts_one (pt_val (pe_ix (r := rIxL K) ix_list (pv 1) (pv 2) (fun _ _ => rfl))))) (fun _ _ _ _ _ => (pv 2)))))))))))))))))))), ?_⟩
    refine ⟨Nat.zero_le _, fun p hp => ?_⟩
    have S : Same H (upd H p (.lst [])) := fun b o e => by rw [upd_ne (ne_of_none e hp)]; exact e
    have F0 := E0.same S
    have g0 : upd H p (.lst []) p = some (.lst (bits j 0)) := upd_same
    have k0 : ∀ b, b ≠ p → upd H p (.lst []) b = H b := fun b hb => upd_ne hb
    generalize upd H p (.lst []) = H0 at F0 g0 k0 ⊢
    refine ⟨_, rfl, .inl ⟨rfl, _, SqL.of g0⟩, _, rfl, a, D, fs, _, _, _, rfl, kd.ex, F0, fun _ r => r, kd.kit 0 (by decide), p, _, _, rfl, rfl, g0, small60 (by unfold bits; rw [List.length_map, List.length_range]; decide), ?_⟩
    rw [bits_step]
    have F1 := F0.upd (o := .lst (bits j 1)) g0
    have g1 : upd H0 p (.lst (bits j 1)) p = some (.lst (bits j 1)) := upd_same
    have k1 : ∀ b, b ≠ p → upd H0 p (.lst (bits j 1)) b = H b := fun b hb => (upd_ne hb).trans (k0 b hb)
    generalize upd H0 p (.lst (bits j 1)) = H1 at F1 g1 k1 ⊢
    refine ⟨_, rfl, .inl ⟨rfl, _, SqL.of g1⟩, _, rfl, a, D, fs, _, _, _, rfl, kd.ex, F1, fun _ r => r, kd.kit 1 (by decide), p, _, _, rfl, rfl, g1, small60 (by unfold bits; rw [List.length_map, List.length_range]; decide), ?_⟩
    rw [bits_step]
    have F2 := F1.upd (o := .lst (bits j 2)) g1
    have g2 : upd H1 p (.lst (bits j 2)) p = some (.lst (bits j 2)) := upd_same
    have k2 : ∀ b, b ≠ p → upd H1 p (.lst (bits j 2)) b = H b := fun b hb => (upd_ne hb).trans (k1 b hb)
    generalize upd H1 p (.lst (bits j 2)) = H2 at F2 g2 k2 ⊢
    refine ⟨_, rfl, .inl ⟨rfl, _, SqL.of g2⟩, _, rfl, a, D, fs, _, _, _, rfl, kd.ex, F2, fun _ r => r, kd.kit 2 (by decide), p, _, _, rfl, rfl, g2, small60 (by unfold bits; rw [List.length_map, List.length_range]; decide), ?_⟩
    rw [bits_step]
    have F3 := F2.upd (o := .lst (bits j 3)) g2
    have g3 : upd H2 p (.lst (bits j 3)) p = some (.lst (bits j 3)) := upd_same
    have k3 : ∀ b, b ≠ p → upd H2 p (.lst (bits j 3)) b = H b := fun b hb => (upd_ne hb).trans (k2 b hb)
    generalize upd H2 p (.lst (bits j 3)) = H3 at F3 g3 k3 ⊢
    refine ⟨_, rfl, .inl ⟨rfl, _, SqL.of g3⟩, _, rfl, a, D, fs, _, _, _, rfl, kd.ex, F3, fun _ r => r, kd.kit 3 (by decide), p, _, _, rfl, rfl, g3, small60 (by unfold bits; rw [List.length_map, List.length_range]; decide), ?_⟩
    rw [bits_step]
    have F4 := F3.upd (o := .lst (bits j 4)) g3
    have g4 : upd H3 p (.lst (bits j 4)) p = some (.lst (bits j 4)) := upd_same
    have k4 : ∀ b, b ≠ p → upd H3 p (.lst (bits j 4)) b = H b := fun b hb => (upd_ne hb).trans (k3 b hb)
    generalize upd H3 p (.lst (bits j 4)) = H4 at F4 g4 k4 ⊢
    refine ⟨_, rfl, .inl ⟨rfl, _, SqL.of g4⟩, _, rfl, a, D, fs, _, _, _, rfl, kd.ex, F4, fun _ r => r, kd.kit 4 (by decide), p, _, _, rfl, rfl, g4, small60 (by unfold bits; rw [List.length_map, List.length_range]; decide), ?_⟩
    rw [bits_step]
    have F5 := F4.upd (o := .lst (bits j 5)) g4
    have g5 : upd H4 p (.lst (bits j 5)) p = some (.lst (bits j 5)) := upd_same
    have k5 : ∀ b, b ≠ p → upd H4 p (.lst (bits j 5)) b = H b := fun b hb => (upd_ne hb).trans (k4 b hb)
    generalize upd H4 p (.lst (bits j 5)) = H5 at F5 g5 k5 ⊢
    refine ⟨_, rfl, .inl ⟨rfl, _, SqL.of g5⟩, _, rfl, a, D, fs, _, _, _, rfl, kd.ex, F5, fun _ r => r, kd.kit 5 (by decide), p, _, _, rfl, rfl, g5, small60 (by unfold bits; rw [List.length_map, List.length_range]; decide), ?_⟩
    rw [bits_step]
    have F6 := F5.upd (o := .lst (bits j 6)) g5
    have g6 : upd H5 p (.lst (bits j 6)) p = some (.lst (bits j 6)) := upd_same
    have k6 : ∀ b, b ≠ p → upd H5 p (.lst (bits j 6)) b = H b := fun b hb => (upd_ne hb).trans (k5 b hb)
    generalize upd H5 p (.lst (bits j 6)) = H6 at F6 g6 k6 ⊢
    refine ⟨_, rfl, .inl ⟨rfl, _, SqL.of g6⟩, _, rfl, a, D, fs, _, _, _, rfl, kd.ex, F6, fun _ r => r, kd.kit 6 (by decide), p, _, _, rfl, rfl, g6, small60 (by unfold bits; rw [List.length_map, List.length_range]; decide), ?_⟩
    rw [bits_step]
    have F7 := F6.upd (o := .lst (bits j 7)) g6
    have g7 : upd H6 p (.lst (bits j 7)) p = some (.lst (bits j 7)) := upd_same
    have k7 : ∀ b, b ≠ p → upd H6 p (.lst (bits j 7)) b = H b := fun b hb => (upd_ne hb).trans (k6 b hb)
    generalize upd H6 p (.lst (bits j 7)) = H7 at F7 g7 k7 ⊢
    refine ⟨_, rfl, .inl ⟨rfl, _, SqL.of g7⟩, _, rfl, a, D, fs, _, _, _, rfl, kd.ex, F7, fun _ r => r, kd.kit 7 (by decide), p, _, _, rfl, rfl, g7, small60 (by unfold bits; rw [List.length_map, List.length_range]; decide), ?_⟩
    rw [bits_step]
    have F8 := F7.upd (o := .lst (bits j 8)) g7
    have g8 : upd H7 p (.lst (bits j 8)) p = some (.lst (bits j 8)) := upd_same
    have k8 : ∀ b, b ≠ p → upd H7 p (.lst (bits j 8)) b = H b := fun b hb => (upd_ne hb).trans (k7 b hb)
    generalize upd H7 p (.lst (bits j 8)) = H8 at F8 g8 k8 ⊢
    refine ⟨_, rfl, .inl ⟨rfl, _, SqL.of g8⟩, _, rfl, a, D, fs, _, _, _, rfl, kd.ex, F8, fun _ r => r, kd.kit 8 (by decide), p, _, _, rfl, rfl, g8, small60 (by unfold bits; rw [List.length_map, List.length_range]; decide), ?_⟩
    rw [bits_step]
    have F9 := F8.upd (o := .lst (bits j 9)) g8
    have g9 : upd H8 p (.lst (bits j 9)) p = some (.lst (bits j 9)) := upd_same
    have k9 : ∀ b, b ≠ p → upd H8 p (.lst (bits j 9)) b = H b := fun b hb => (upd_ne hb).trans (k8 b hb)
    generalize upd H8 p (.lst (bits j 9)) = H9 at F9 g9 k9 ⊢
    refine ⟨_, rfl, .inl ⟨rfl, _, SqL.of g9⟩, _, rfl, a, D, fs, _, _, _, rfl, kd.ex, F9, fun _ r => r, kd.kit 9 (by decide), p, _, _, rfl, rfl, g9, small60 (by unfold bits; rw [List.length_map, List.length_range]; decide), ?_⟩
    rw [bits_step]
    have F10 := F9.upd (o := .lst (bits j 10)) g9
    have g10 : upd H9 p (.lst (bits j 10)) p = some (.lst (bits j 10)) := upd_same
    have k10 : ∀ b, b ≠ p → upd H9 p (.lst (bits j 10)) b = H b := fun b hb => (upd_ne hb).trans (k9 b hb)
    generalize upd H9 p (.lst (bits j 10)) = H10 at F10 g10 k10 ⊢
    refine ⟨_, rfl, .inl ⟨rfl, _, SqL.of g10⟩, _, rfl, a, D, fs, _, _, _, rfl, kd.ex, F10, fun _ r => r, kd.kit 10 (by decide), p, _, _, rfl, rfl, g10, small60 (by unfold bits; rw [List.length_map, List.length_range]; decide), ?_⟩
    rw [bits_step]
    have F11 := F10.upd (o := .lst (bits j 11)) g10
    have g11 : upd H10 p (.lst (bits j 11)) p = some (.lst (bits j 11)) := upd_same
    have k11 : ∀ b, b ≠ p → upd H10 p (.lst (bits j 11)) b = H b := fun b hb => (upd_ne hb).trans (k10 b hb)
    generalize upd H10 p (.lst (bits j 11)) = H11 at F11 g11 k11 ⊢
    refine ⟨_, rfl, .inl ⟨rfl, _, SqL.of g11⟩, _, rfl, a, D, fs, _, _, _, rfl, kd.ex, F11, fun _ r => r, kd.kit 11 (by decide), p, _, _, rfl, rfl, g11, small60 (by unfold bits; rw [List.length_map, List.length_range]; decide), ?_⟩
    rw [bits_step]
    have F12 := F11.upd (o := .lst (bits j 12)) g11
    have g12 : upd H11 p (.lst (bits j 12)) p = some (.lst (bits j 12)) := upd_same
    have k12 : ∀ b, b ≠ p → upd H11 p (.lst (bits j 12)) b = H b := fun b hb => (upd_ne hb).trans (k11 b hb)
    generalize upd H11 p (.lst (bits j 12)) = H12 at F12 g12 k12 ⊢
    refine ⟨_, rfl, .inl ⟨rfl, _, SqL.of g12⟩, _, rfl, a, D, fs, _, _, _, rfl, kd.ex, F12, fun _ r => r, kd.kit 12 (by decide), p, _, _, rfl, rfl, g12, small60 (by unfold bits; rw [List.length_map, List.length_range]; decide), ?_⟩
    rw [bits_step]
    have F13 := F12.upd (o := .lst (bits j 13)) g12
    have g13 : upd H12 p (.lst (bits j 13)) p = some (.lst (bits j 13)) := upd_same
    have k13 : ∀ b, b ≠ p → upd H12 p (.lst (bits j 13)) b = H b := fun b hb => (upd_ne hb).trans (k12 b hb)
    generalize upd H12 p (.lst (bits j 13)) = H13 at F13 g13 k13 ⊢
    refine ⟨_, rfl, .inl ⟨rfl, _, SqL.of g13⟩, _, rfl, a, D, fs, _, _, _, rfl, kd.ex, F13, fun _ r => r, kd.kit 13 (by decide), p, _, _, rfl, rfl, g13, small60 (by unfold bits; rw [List.length_map, List.length_range]; decide), ?_⟩
    rw [bits_step]
    have F14 := F13.upd (o := .lst (bits j 14)) g13
    have g14 : upd H13 p (.lst (bits j 14)) p = some (.lst (bits j 14)) := upd_same
    have k14 : ∀ b, b ≠ p → upd H13 p (.lst (bits j 14)) b = H b := fun b hb => (upd_ne hb).trans (k13 b hb)
    generalize upd H13 p (.lst (bits j 14)) = H14 at F14 g14 k14 ⊢
    have el : (bits j 14).length = 14 := by unfold bits; rw [List.length_map, List.length_range]
    refine ⟨_, rfl, p, _, rfl, .inl (SqL.of g14), ((bits j 14).length : Int), rfl, by rw [el]; decide, by rw [el]; decide, fun Dd hD => ?_⟩
    rw [el]
    have npD : p ≠ Dd := ne_of_none g14 hD
    refine lc_range (lo := 0) (n := 14) (fun i H' => H' Dd = some (.lst (if j < i then [V.int j] else [])) ∧ H' p = some (.lst (bits j 14)) ∧ ∀ b, b ≠ p → b ≠ Dd → H' b = H b)
      ⟨upd_same, by rw [upd_ne npD]; exact g14, fun b h1 h2 => by rw [upd_ne h2]; exact k14 b h1⟩ ?_ ?_
    · rintro i H' hi ⟨q1, q2, q3⟩
      have ea : atI (bits j 14) ((0 : Int) + (i : Int)) = some (.bl (decide (i = j))) := by
        rw [Int.zero_add]
        refine atI_nat ?_
        unfold bits
        rw [List.getElem?_map, List.getElem?_range hi]
        rfl
      refine ⟨rfl, _, rfl, _, rfl, p, _, _, _, rfl, rfl, SqL.of q2, ea, _, rfl, ?_⟩
      by_cases c : i = j
      · refine if_t (decide_eq_true c) ⟨_, rfl, _, q1, ?_, ?_, ?_, ?_⟩
        · split
          · exact small60 (by simp)
          · exact small60 (by simp)
        · rw [upd_same, if_neg (by omega), if_pos (by omega), c, Int.zero_add]
          rfl
        · rw [upd_ne npD]
          exact q2
        · exact fun b h1 h2 => by rw [upd_ne h2]; exact q3 b h1 h2
      · refine if_f (decide_eq_false c) ⟨?_, q2, q3⟩
        by_cases c2 : j < i
        · rw [q1, if_pos c2, if_pos (by omega)]
        · rw [q1, if_neg c2, if_neg (by omega)]
    · rintro H' ⟨q1, q2, q3⟩
      rw [if_pos hj] at q1
      have hDH : H Dd = none := by rw [← k14 Dd (Ne.symm npD)]; exact hD
      refine k Dd H' hDH (fun b o e => ?_) q1
      rw [q3 b (ne_of_none e hp) (ne_of_none e hDH)]
      exact e
theorem scBsd : FnScope ["_law_errors", "_law_k", "_law_error"] ["_law_errors"] (defScope sBsd) := ⟨rfl, rfl, rfl, by decide +kernel, rfl, by decide +kernel, by decide +kernel⟩
theorem shaped_i {n : Int} : SeqAt.shaped (.list [.int n]) = true := by
  have h1 : PyData.canLay0 (.list [.int n]) = true := by
    simp [PyData.canLay0, PyData.canLayAll0]
  have h2 : PyData.depth (.list [.int n]) ≤ 64 := by
    simp [PyData.depth, PyData.depthAll]
  unfold SeqAt.shaped
  rw [h1, decide_eq_true h2]
  rfl
set_option maxHeartbeats 0 in
theorem ok_bsd {f fC : Addr} {fd fdC : FuncData} (F : Fun K "_law_based" "_law_based" sBsd f fd) (T : ClsTxt mg cs LE) (FC : Fun K "_law_classes" "_law_classes" sCls fC fdC) (bC : Binds K fdC ["_law_error"] []) (hmC : mg "_law_classes" = some (.ref fC)) :
    FnOk P w K mg base CX0 2 f fd ["_law_errors"] (spBsd K cs LE) := by
  have GC : FnOk P w K mg base CX0 1 fC fdC ["_law_error"] (spCls K cs LE) := ok_cls FC T
  refine F.ok scBsd (fun vs H Q E h => ?_) (fun cdv A outer s H vs Q E hr h => ?_)
  · obtain ⟨p, es, rfl, _⟩ := h
    rfl
  · obtain ⟨p, es, rfl, hp, h14, hE, k⟩ := h
    have hr1 : Room 1 _ := hr.mono (by decide)
    refine ⟨_, (pss_cons (ps_for PassesOwn.never rfl (pi_range1 (by rfl) T.range (pa_cons (pe_callB call_len_seq (by rfl) T.len PySem.boot_len (pa_cons (pv 0) pa_nil)) pa_nil)) (pg_name (i := 1) scBsd.nd rfl (Or.inl rfl)) (pss_cons (ps_set (i := 2) scBsd.nd rfl (Or.inl rfl) (pe_ix ix_list (pv 0) (pv 1) (fun _ _ => rfl)))
      (pss_cons (ps_if (PW.pt (pw_or (pt_not (pt_val (pe_callB call_isX (by rfl) T.isi (by decide +kernel) (pa_cons (pv 2) (pa_cons (pe_glob (v := .ref LE) rfl T.g_LE rfl) pa_nil))))) (pw_or1 (pt_not (pt_val (pe_callB call_isX (by rfl) T.isi (by decide +kernel) (pa_cons (pv 2) (pa_cons (pe_bltn (v := .ty "ValueError") (by rfl) T.ve (by decide +kernel) rfl) pa_nil)))))))) (pss_one (ps_ret pe_bl)) pss_nil)
      (pss_one (ps_if (pt_cmpR (op_neD hr.units) (pe_call GC hr1 rfl hmC FC.kp bC .nil pass0 (pa_cons (pv 2) pa_nil)) (pe_lst (pa_cons (pv 1) pa_nil)) (nomark _)) (pss_one (ps_ret pe_bl)) pss_nil)))))
      (pss_one (ps_ret pe_bl))), ?_⟩
    refine ⟨_, rfl, p, _, rfl, .inl (SqL.of hp), _, rfl, by rw [List.length_map, h14]; decide, by rw [List.length_map, h14]; decide, ?_⟩
    rw [List.length_map, h14]
    refine for_range (lo := 0) (n := 14) (fun i σ' H' => ∃ v1 v2 : Option V, σ' = [some (.ref p), v1, v2] ∧ Same H H') ⟨_, _, rfl, fun _ _ e => e⟩ ?_ ?_
    · rintro i σ' H' hi ⟨v1, v2, rfl, S⟩
      obtain ⟨a, ha⟩ : ∃ a, es[i]? = some a := ⟨_, List.getElem?_eq_getElem (by omega)⟩
      have ea : atI (es.map V.ref) ((0 : Int) + (i : Int)) = some (.ref a) := by
        rw [Int.zero_add]
        refine atI_nat ?_
        rw [List.getElem?_map, ha]
        rfl
      obtain ⟨D, fs, hA, kd⟩ := hE i a ha
      have hA' := hA.same S
      refine ⟨_, rfl, _, rfl, p, _, _, _, rfl, rfl, SqL.of (S _ _ hp), ea, ?_⟩
      refine ⟨_, rfl, a, D, fs, _, _, _, rfl, kd.ex, hA', fun _ r => r, kd.le, _, rfl, if_f rfl ?_⟩
      refine ⟨_, rfl, a, D, fs, _, _, _, rfl, kd.ex, hA', fun _ r => r, kd.ve, _, rfl, if_f rfl ?_⟩
      refine ⟨_, rfl, a, D, i, fs, rfl, hA', kd, hi, fun r H1 hr1 S1 e1 => ?_⟩
      refine ⟨_, rfl, by show 1 ≤ sizeLine; decide, fun t ht => ?_⟩
      have nrt : r ≠ t := ne_of_none e1 ht
      refine ⟨.list [.int i], .list [.int (0 + (i : Int))], .lst (SqL.of (by rw [upd_ne nrt]; exact e1)) (.cons (.int _) .nil), .lst (SqL.of upd_same) (.cons (.int _) .nil), shaped_i, shaped_i, _, rfl, ?_⟩
      rw [Int.zero_add, SeqAt.eqv_refl _ (SeqAt.canLay_of_shaped shaped_i)]
      refine if_f rfl ⟨_, _, rfl, fun b o e => ?_⟩
      rw [upd_ne (ne_of_none (S1 _ _ (S _ _ e)) ht)]
      exact S1 _ _ (S _ _ e)
    · rintro σ' H' ⟨v1, v2, rfl, S⟩
      exact k _ S
end
end Law

namespace Law
open PySem PySem.Spec PyProof.Rows L2 Sup
abbrev sLaw : Stmt := top 22
structure LTxt (mg : Str → Option Value) (fB fT fN fS : Addr) : Prop where
  box : mg "_law_box" = some (.ref fB)
  take : mg "_law_take" = some (.ref fT)
  num : mg "_law_number" = some (.ref fN)
  based : mg "_law_based" = some (.ref fS)
  b_range : mg "range" = none
  b_len : mg "len" = none
  b_list : mg "list" = none
  b_str : mg "str" = none
  b_isinstance : mg "isinstance" = none
theorem codes_join : ∀ ys : List Str, (∀ y ∈ ys, ∀ c ∈ y.cps.toList, c < 16 ^ 8) → ∀ c ∈ (Str.join "" ys).cps.toList, c < 16 ^ 8
  | [], _, c, hc => by
    exact absurd hc (by simp [Str.join, Str.empty])
  | [x], h, c, hc => h x List.mem_cons_self c hc
  | x :: y :: r, h, c, hc => by
    have ih := codes_join (y :: r) (fun z hz => h z (List.mem_cons_of_mem _ hz))
    have e : (Str.join "" (x :: y :: r)) = x ++ "" ++ Str.join "" (y :: r) := rfl
    rw [e] at hc
    have e2 : (x ++ ("" : Str) ++ Str.join "" (y :: r)).cps.toList = x.cps.toList ++ (Str.join "" (y :: r)).cps.toList := by
      show ((x.cps ++ ("" : Str).cps) ++ (Str.join "" (y :: r)).cps).toList = _
      have z : ("" : Str).cps = #[] := rfl
      rw [z, Array.append_empty, Array.toList_append]
    rw [e2] at hc
    rcases List.mem_append.mp hc with z | z
    · exact h x List.mem_cons_self c z
    · exact ih c z
theorem join_fit {ys : List Str} (h1 : ∀ y ∈ ys, ∃ c, y = ⟨#[c]⟩ ∧ c < 16 ^ 8) (h2 : ys.length ≤ 8) : okTxt (.str (Txt.join "" ys)) ∧ (ys.map (·.length)).sum + ys.length * ("" : Str).length ≤ 16777216 := by
  have hs : (ys.map (·.length)).sum = ys.length := by
    clear h2
    induction ys with
    | nil => rfl
    | cons y r ih =>
      obtain ⟨c, rfl, _⟩ := h1 y List.mem_cons_self
      rw [List.map_cons, List.sum_cons, ih fun z hz => h1 z (List.mem_cons_of_mem _ hz), List.length_cons]
      show 1 + r.length = _
      omega
  have h0 : ("" : Str).length = 0 := rfl
  have e : Txt.join "" ys = Str.join "" ys := StrLaws.glued_eq_join _ _
  refine ⟨⟨_, rfl, ?_⟩, by rw [hs, h0]; omega⟩
  rw [e]
  have hl := StrLaws.join_length_le "" ys
  rw [hs, h0, Nat.mul_zero, Nat.add_zero] at hl
  have hc := codes_join ys fun y hy c hc => by
    obtain ⟨d, rfl, hd⟩ := h1 y hy
    have e : c = d := by simpa using hc
    rw [e]
    exact hd
  have := StrLaws.reprText_len _ hc
  omega
theorem log_of {i : Int} {k : Nat} (hk : 0 < k) (h : i.natAbs < 2 ^ k) : i.natAbs.log2 < k := by
  by_cases hz : i.natAbs = 0
  · rw [hz, Nat.log2_zero]
    exact hk
  · exact (Nat.log2_lt hz).mpr h
theorem pow_ok {j : Int} (h : 0 ≤ j ∧ j ≤ 1000000) : CPow 10 j := ⟨h.1, h.2, by decide⟩
theorem Box.free {H : Hp} {b l d : Addr} (B : Box H b l) (h : H d = none) : b ≠ d ∧ l ≠ d := by
  obtain ⟨ns, i, q, s, h1, h2, _⟩ := B
  exact ⟨ne_of_none h1 h, ne_of_none h2 h⟩
theorem Box.at {H : Hp} {b l d : Addr} {o : HO} (B : Box H b l) (n : b ≠ d ∧ l ≠ d) : Box (upd H d o) b l := B.keep fun c hc => by
  rcases hc with rfl | rfl
  · exact upd_ne n.1
  · exact upd_ne n.2
theorem abz {q : Int} (a0 : 0 ≤ q) (a1 : q < 7) : ∃ c, atI (("abz A9_" : Str).cps.toList) q = some c ∧ c < 16 ^ 8 := by
  have : q = 0 ∨ q = 1 ∨ q = 2 ∨ q = 3 ∨ q = 4 ∨ q = 5 ∨ q = 6 := by omega
  rcases this with rfl | rfl | rfl | rfl | rfl | rfl | rfl <;> exact ⟨_, rfl, by decide⟩
theorem map_app {α β : Type} {f : α → β} {xs : List α} {x : α} : xs.map f ++ [f x] = (xs ++ [x]).map f := by rw [List.map_append]; rfl
theorem same_new {H : Hp} {p : Addr} {o : HO} (h : H p = none) : Same H (upd H p o) := fun b o' e => by
  rw [upd_ne (ne_of_none e h)]
  exact e
/-- what stands all along: the ring, the blames, their copies, the list of the copies -/
structure Fx (h : Hp) (R D c1 c2 pp : Addr) (rg : List Int) (ts : List Addr) : Prop where
  r : h R = some (.lst (rg.map V.int))
  d : h D = some (.lst (ts.map V.ref))
  fc1 : h c1 = some (.lst (rg.map V.int))
  fc2 : h c2 = some (.lst (ts.map V.ref))
  fpp : h pp = some (.lst [V.ref c1, V.ref c2])
  t : ∀ t ∈ ts, ∃ n : Int, h t = some (.tup [V.int n]) ∧ n.natAbs ≤ 40
theorem Fx.same {h h' : Hp} {R D c1 c2 pp : Addr} {rg : List Int} {ts : List Addr} (F : Fx h R D c1 c2 pp rg ts) (s : Same h h') : Fx h' R D c1 c2 pp rg ts :=
  ⟨s _ _ F.r, s _ _ F.d, s _ _ F.fc1, s _ _ F.fc2, s _ _ F.fpp, fun t ht => by
    obtain ⟨n, h1, h2⟩ := F.t t ht
    exact ⟨n, s _ _ h1, h2⟩⟩
theorem small_log {n : Int} {k : Nat} (h : n.natAbs ≤ 40) (hk : 6 ≤ k) : n.natAbs.log2 < k := log_of (by omega) (Nat.lt_of_lt_of_le (show n.natAbs < 2 ^ 6 by omega) (Nat.pow_le_pow_right (by decide) hk))
theorem shown_r {h : Hp} {rg : List Int} (h3 : ∀ y ∈ rg, y.natAbs ≤ 30) : Shown h (rg.map V.int) := fun v hv => by
  obtain ⟨y, hy, rfl⟩ := List.mem_map.mp hv
  exact .inl ⟨y, rfl, small_log (Nat.le_trans (h3 y hy) (by decide)) (by decide)⟩
theorem shown_d {h : Hp} {ts : List Addr} (h3 : ∀ t ∈ ts, ∃ n : Int, h t = some (.tup [V.int n]) ∧ n.natAbs ≤ 40) : Shown h (ts.map V.ref) := fun v hv => by
  obtain ⟨y, hy, rfl⟩ := List.mem_map.mp hv
  obtain ⟨n, h1, h2⟩ := h3 y hy
  refine .inr ⟨y, [n], rfl, h1, by show 1 ≤ 10; decide, fun i hi => ?_⟩
  rw [List.mem_singleton.mp hi]
  exact small_log h2 (by decide)
theorem paired_refl {α : Type} {F : α → α → Prop} : ∀ {xs : List α}, (∀ x ∈ xs, F x x) → Paired F xs xs
  | [], _ => .nil
  | _ :: _, h => .cons (h _ List.mem_cons_self) (paired_refl fun x hx => h x (List.mem_cons_of_mem _ hx))
def spLaw (K : PySem.W.Frag) : Sp := fun vs H Q _ => ∃ (a : Addr) (ns : List Int), vs = [.ref a] ∧ SqL K H a (ns.map V.int) ∧ ns.length ≤ 63 ∧ ∀ H', Q (.bl true) H'
section
variable {P : Program} {w : World} {K : PySem.W.Frag} {mg : Str → Option Value} {base : Heap} {cs : Nat → Addr} {LE : Addr}
theorem scLaw : FnScope ["_law_script", "_law_box_here", "_law_value", "_law_name", "_law_ring", "_law_blames", "_law_passed", "_law_errors", "_law_numbers", "_law_names", "_law_k", "_law_number_here", "_law_word"] ["_law_script"] (defScope sLaw) := ⟨rfl, rfl, rfl, by decide +kernel, rfl, by decide +kernel, by decide +kernel⟩
set_option maxHeartbeats 0 in
theorem ok_law {f fB fT fN fS fC : Addr} {fd fdB fdT fdN fdS fdC : FuncData} (F : Fun K "law" "law" sLaw f fd) (T : LTxt mg fB fT fN fS) (CT : ClsTxt mg cs LE) (bt : BoxTxt K mg) (nt : NumTxt mg)
    (FB : Fun K "_law_box" "_law_box" sBox fB fdB) (bB : Binds K fdB ["_law_script"] []) (FT : Fun K "_law_take" "_law_take" sTake fT fdT) (bT : Binds K fdT ["_law_box_here", "_law_size"] [])
    (FN : Fun K "_law_number" "_law_number" sNum fN fdN) (bN : Binds K fdN ["_law_x"] []) (FS : Fun K "_law_based" "_law_based" sBsd fS fdS) (bS : Binds K fdS ["_law_errors"] [])
    (FC : Fun K "_law_classes" "_law_classes" sCls fC fdC) (bC : Binds K fdC ["_law_error"] []) (hmC : mg "_law_classes" = some (.ref fC)) (kd : ∀ i, i < 14 → KD K cs LE i (cs i)) (xf : ∀ i, i < 14 → XfC K (cs i))
    (M0 : MkE P w K mg base "BadNumber" (cs 0) (spErr (cs 0) "value" okInt) ["self", "value"]) (n0 : PySem.W.findIn K (.ref (cs 0)) "value" = some none)
    (M1 : MkE P w K mg base "BadName" (cs 1) (spErr (cs 1) "name" okTxt) ["self", "name"]) (n1 : PySem.W.findIn K (.ref (cs 1)) "name" = some none)
    (M2 : MkE P w K mg base "TakenName" (cs 2) (spErr (cs 2) "name" okTxt) ["self", "name"]) (n2 : PySem.W.findIn K (.ref (cs 2)) "name" = some none)
    (M3 : MkE P w K mg base "UnknownName" (cs 3) (spErr (cs 3) "name" okTxt) ["self", "name"]) (n3 : PySem.W.findIn K (.ref (cs 3)) "name" = some none)
    (M4 : MkE P w K mg base "NoPlace" (cs 4) (spErr (cs 4) "place" okInt) ["self", "place"]) (n4 : PySem.W.findIn K (.ref (cs 4)) "place" = some none)
    (M5 : MkE P w K mg base "TooMany" (cs 5) (spErr (cs 5) "count" okInt) ["self", "count"]) (n5 : PySem.W.findIn K (.ref (cs 5)) "count" = some none)
    (M6 : MkE P w K mg base "NoSite" (cs 6) (spErrL (cs 6) "ring") ["self", "ring"]) (n6 : PySem.W.findIn K (.ref (cs 6)) "ring" = some none)
    (M7 : MkE P w K mg base "NoShape" (cs 7) (spErrL (cs 7) "blames") ["self", "blames"]) (n7 : PySem.W.findIn K (.ref (cs 7)) "blames" = some none)
    (M8 : MkE P w K mg base "BadState" (cs 8) (spErr (cs 8) "state" okTxt) ["self", "state"]) (n8 : PySem.W.findIn K (.ref (cs 8)) "state" = some none)
    (M9 : MkE P w K mg base "BadLine" (cs 9) (spErr (cs 9) "line" okInt) ["self", "line"]) (n9 : PySem.W.findIn K (.ref (cs 9)) "line" = some none)
    (M10 : MkE P w K mg base "DeedFailed" (cs 10) (spErr (cs 10) "row" okInt) ["self", "row"]) (n10 : PySem.W.findIn K (.ref (cs 10)) "row" = some none)
    (M11 : MkE P w K mg base "OtherSite" (cs 11) (spErr0 (cs 11)) ["self"])
    (M12 : MkE P w K mg base "NothingToUndo" (cs 12) (spErr0 (cs 12)) ["self"])
    (M13 : MkE P w K mg base "NothingToRedo" (cs 13) (spErr0 (cs 13)) ["self"])
    : FnOk P w K mg base CX0 4 f fd ["_law_script"] (spLaw K) := by
  have GB : FnOk P w K mg base CX0 1 fB fdB ["_law_script"] (spBox K) := ok_box FB bt
  have GT : FnOk P w K mg base CX0 1 fT fdT ["_law_box_here", "_law_size"] spTake := ok_take FT bt
  have GN : FnOk P w K mg base CX0 1 fN fdN ["_law_x"] spNum := ok_num FN nt
  have GS : FnOk P w K mg base CX0 2 fS fdS ["_law_errors"] (spBsd K cs LE) := ok_bsd FS CT FC bC hmC
  refine F.ok scLaw (fun vs H Q E h => ?_) (fun cdv A outer s H vs Q E hr h => ?_)
  · obtain ⟨a, ns, rfl, _⟩ := h
    rfl
  · obtain ⟨a, ns, rfl, hS, h63, k⟩ := h
    have hr1 : Room 1 _ := hr.mono (by decide)
    have hr2 : Room 2 _ := hr.mono (by decide)
    have hr3 : Room 3 _ := hr.mono (by decide)
    refine ⟨_, (pss_cons (ps_set (i := 1) scLaw.nd rfl (Or.inr rfl) (pe_call GB hr1 rfl T.box FB.kp bB .nil pass0 (pa_cons (pv 0) pa_nil)))
      (pss_cons (ps_set (i := 2) scLaw.nd rfl (Or.inr rfl) (pe_op op_sub (pe_call GT hr1 rfl T.take FT.kp bT .nil pass0 (pa_cons (pv 1) (pa_cons (pe_op op_pow pe_int pe_int) pa_nil))) (pe_call GT hr1 rfl T.take FT.kp bT .nil pass0 (pa_cons (pv 1) (pa_cons (pe_op op_pow pe_int pe_int) pa_nil)))))
      (pss_cons (ps_set (i := 3) scLaw.nd rfl (Or.inr rfl) (pe_join pe_str (pe_lc (own := [("_law_k", 10)]) (g := gName 10) (tt := tYes) (by rfl) scLaw.nd (pi_range1 (by rfl) T.b_range (pa_cons (pe_call GT hr1 rfl T.take FT.kp bT .nil pass0 (pa_cons (pv 1) (pa_cons pe_int pa_nil))) pa_nil)) (blkOk_by (own := [("_law_k", 10)]) (N := ["_law_script", "_law_box_here", "_law_value", "_law_name", "_law_ring", "_law_blames", "_law_passed", "_law_errors", "_law_numbers", "_law_names", "_law_k", "_law_number_here", "_law_word"]) (sc := defScope sLaw) (by decide +kernel)) (fun _ _ _ _ _ => pg_name (i := 10) scLaw.nd rfl (Or.inl rfl)) (fun _ _ _ _ _ => pts_nil) (fun _ _ _ _ _ => (pe_ix ix_str pe_str (pe_call GT hr1 rfl T.take FT.kp bT .nil pass0 (pa_cons (pv 1) (pa_cons pe_int pa_nil))) (fun _ _ => rfl))))))
      (pss_cons (ps_setLc (i := 4) (own := [("_law_k", 10)]) (g := gName 10) (tt := tYes) (by rfl) scLaw.nd rfl rfl (sw_true rfl rfl rfl (by decide +kernel)) (pi_range1 (by rfl) T.b_range (pa_cons (pe_call GT hr1 rfl T.take FT.kp bT .nil pass0 (pa_cons (pv 1) (pa_cons pe_int pa_nil))) pa_nil)) (blkOk_by (own := [("_law_k", 10)]) (N := ["_law_script", "_law_box_here", "_law_value", "_law_name", "_law_ring", "_law_blames", "_law_passed", "_law_errors", "_law_numbers", "_law_names", "_law_k", "_law_number_here", "_law_word"]) (sc := defScope sLaw) (by decide +kernel)) (fun _ _ _ _ _ => pg_name (i := 10) scLaw.nd rfl (Or.inl rfl)) (fun _ _ _ _ _ => pts_nil) (fun _ _ _ _ _ => (pe_op op_sub (pe_call GT hr1 rfl T.take FT.kp bT .nil pass0 (pa_cons (pv 1) (pa_cons pe_int pa_nil))) pe_int)))
      (pss_cons (ps_setLc (i := 5) (own := [("_law_k", 10)]) (g := gName 10) (tt := tYes) (by rfl) scLaw.nd rfl rfl (sw_true rfl rfl rfl (by decide +kernel)) (pi_range1 (by rfl) T.b_range (pa_cons (pe_call GT hr1 rfl T.take FT.kp bT .nil pass0 (pa_cons (pv 1) (pa_cons pe_int pa_nil))) pa_nil)) (blkOk_by (own := [("_law_k", 10)]) (N := ["_law_script", "_law_box_here", "_law_value", "_law_name", "_law_ring", "_law_blames", "_law_passed", "_law_errors", "_law_numbers", "_law_names", "_law_k", "_law_number_here", "_law_word"]) (sc := defScope sLaw) (by decide +kernel)) (fun _ _ _ _ _ => pg_name (i := 10) scLaw.nd rfl (Or.inl rfl)) (fun _ _ _ _ _ => pts_nil) (fun _ _ _ _ _ => (pe_tup (pa_cons (pe_call GT hr1 rfl T.take FT.kp bT .nil pass0 (pa_cons (pv 1) (pa_cons pe_int pa_nil))) pa_nil))))
      (pss_cons (ps_set (i := 6) scLaw.nd rfl (Or.inl rfl) (pe_lst (pa_cons (pe_callTy call_list_of (by rfl) T.b_list (by decide +kernel) (pa_cons (pv 4) pa_nil)) (pa_cons (pe_callTy call_list_of (by rfl) T.b_list (by decide +kernel) (pa_cons (pv 5) pa_nil)) pa_nil))))
      (pss_cons (ps_set (i := 7) scLaw.nd rfl (Or.inl rfl) (pe_lst (pa_cons (pe_err M0 hr3 rfl (pa_cons (pv 2) pa_nil)) (pa_cons (pe_err M1 hr3 rfl (pa_cons (pv 3) pa_nil)) (pa_cons (pe_err M2 hr3 rfl (pa_cons (pv 3) pa_nil)) (pa_cons (pe_err M3 hr3 rfl (pa_cons (pv 3) pa_nil)) (pa_cons (pe_err M4 hr3 rfl (pa_cons (pv 2) pa_nil)) pa_nil)))))))
      (pss_cons (ps_set (i := 7) scLaw.nd rfl (Or.inl rfl) (pe_op op_cat (pv 7) (pe_lst (pa_cons (pe_err M5 hr3 rfl (pa_cons (pv 2) pa_nil)) (pa_cons (pe_err M6 hr3 rfl (pa_cons (pe_ix ix_list (pv 6) pe_int (fun _ _ => rfl)) pa_nil)) (pa_cons (pe_err M7 hr3 rfl (pa_cons (pe_ix ix_list (pv 6) pe_int (fun _ _ => rfl)) pa_nil)) (pa_cons (pe_err M8 hr3 rfl (pa_cons (pv 3) pa_nil)) pa_nil)))))))
      (pss_cons (ps_set (i := 7) scLaw.nd rfl (Or.inl rfl) (pe_op op_cat (pv 7) (pe_lst (pa_cons (pe_err M9 hr3 rfl (pa_cons (pv 2) pa_nil)) (pa_cons (pe_err M10 hr3 rfl (pa_cons (pv 2) pa_nil)) (pa_cons (pe_err0 M11 hr3 rfl) (pa_cons (pe_err0 M12 hr3 rfl) (pa_cons (pe_err0 M13 hr3 rfl) pa_nil))))))))
      (pss_cons (ps_expr (pe_bm PySem.F.plainAttrs_list PySem.F.slot_list_append PySem.F.type_list_append mt_append (pe_ix ix_list (pv 6) pe_int (fun _ _ => rfl)) (pa_cons pe_int pa_nil)))
      (pss_cons (ps_expr (pe_bm0 PySem.F.plainAttrs_list PySem.F.slot_list_clear PySem.F.type_list_clear mt_clear (pe_ix ix_list (pv 6) pe_int (fun _ _ => rfl))))
      (pss_cons (ps_if (pt_not (pt_val (pe_call GS hr2 rfl T.based FS.kp bS .nil pass0 (pa_cons (pv 7) pa_nil)))) (pss_one (ps_ret pe_bl)) pss_nil)
      (pss_cons (ps_set (i := 8) scLaw.nd rfl (Or.inl rfl) (pe_lst (pa_cons (pe_ex (pe_ix ix_list (pv 7) pe_int (fun _ _ => rfl))) (pa_cons (pe_ex (pe_ix ix_list (pv 7) pe_int (fun _ _ => rfl))) (pa_cons (pe_ex (pe_ix ix_list (pv 7) pe_int (fun _ _ => rfl))) (pa_cons (pe_ex (pe_ix ix_list (pv 7) pe_int (fun _ _ => rfl))) (pa_cons (pe_ex (pe_ix ix_list (pv 7) pe_int (fun _ _ => rfl))) pa_nil)))))))
      (pss_cons (ps_if (pt_cmpR op_gt (pe_callB call_len_seq (by rfl) T.b_len PySem.boot_len (pa_cons (pe_lc (own := [("_law_number_here", 11)]) (g := gName 11) (by rfl) scLaw.nd (pi_list (pv 8)) (blkOk_by (own := [("_law_number_here", 11)]) (N := ["_law_script", "_law_box_here", "_law_value", "_law_name", "_law_ring", "_law_blames", "_law_passed", "_law_errors", "_law_numbers", "_law_names", "_law_k", "_law_number_here", "_law_word"]) (sc := defScope sLaw) (by decide +kernel)) (fun _ _ _ _ _ => pg_name (i := 11) scLaw.nd rfl (Or.inl rfl)) (fun _ _ _ _ _ => (pts_one (PW.pt (pw_or (pt_not (pt_val (pe_call GN hr1 rfl T.num FN.kp bN .nil pass0 (pa_cons (pv 11) pa_nil)))) (pw_or1 (pt_cmpR op_ne (pv 11) (pv 2) (nomark _))))))) (fun _ _ _ _ _ => (pv 11))) pa_nil)) pe_int (nomark _)) (pss_one (ps_ret pe_bl)) pss_nil)
      (pss_cons (ps_set (i := 9) scLaw.nd rfl (Or.inl rfl) (pe_lst (pa_cons (pe_ex (pe_ix ix_list (pv 7) pe_int (fun _ _ => rfl))) (pa_cons (pe_ex (pe_ix ix_list (pv 7) pe_int (fun _ _ => rfl))) (pa_cons (pe_ex (pe_ix ix_list (pv 7) pe_int (fun _ _ => rfl))) (pa_cons (pe_ex (pe_ix ix_list (pv 7) pe_int (fun _ _ => rfl))) pa_nil))))))
      (pss_cons (ps_if (pt_cmpR op_gt (pe_callB call_len_seq (by rfl) T.b_len PySem.boot_len (pa_cons (pe_lc (own := [("_law_word", 12)]) (g := gName 12) (by rfl) scLaw.nd (pi_list (pv 9)) (blkOk_by (own := [("_law_word", 12)]) (N := ["_law_script", "_law_box_here", "_law_value", "_law_name", "_law_ring", "_law_blames", "_law_passed", "_law_errors", "_law_numbers", "_law_names", "_law_k", "_law_number_here", "_law_word"]) (sc := defScope sLaw) (by decide +kernel)) (fun _ _ _ _ _ => pg_name (i := 12) scLaw.nd rfl (Or.inl rfl)) (fun _ _ _ _ _ => (pts_one (PW.pt (pw_or (pt_not (pt_val (pe_callB (r := rIsi K) (id := "isinstance") call_isi (by rfl) T.b_isinstance (by decide +kernel) (pa_cons (pv 12) (pa_cons (pe_bltn (v := .ty "str") (by rfl) T.b_str (by decide +kernel) rfl) pa_nil))))) (pw_or1 (pt_cmpR op_ne (pv 12) (pv 3) (nomark _))))))) (fun _ _ _ _ _ => (pv 12))) pa_nil)) pe_int (nomark _)) (pss_one (ps_ret pe_bl)) pss_nil)
      (pss_cons (ps_if (PW.pt (pw_or (pt_not (pt_val (pe_callB call_isi (by rfl) T.b_isinstance (by decide +kernel) (pa_cons (pe_ex (pe_ix ix_list (pv 7) pe_int (fun _ _ => rfl))) (pa_cons (pe_bltn (v := .ty "list") (by rfl) T.b_list (by decide +kernel) rfl) pa_nil))))) (pw_or1 (pt_not (pt_val (pe_callB call_isi (by rfl) T.b_isinstance (by decide +kernel) (pa_cons (pe_ex (pe_ix ix_list (pv 7) pe_int (fun _ _ => rfl))) (pa_cons (pe_bltn (v := .ty "list") (by rfl) T.b_list (by decide +kernel) rfl) pa_nil)))))))) (pss_one (ps_ret pe_bl)) pss_nil)
      (pss_one (ps_ret (pe_and (pe_cmpR (op_eqV hr.units) (pe_ex (pe_ix ix_list (pv 7) pe_int (fun _ _ => rfl))) (pv 4) (nomark _)) (pe_one (pe_cmpR (op_eqV hr.units) (pe_ex (pe_ix ix_list (pv 7) pe_int (fun _ _ => rfl))) (pv 5) (nomark _))))))))))))))))))))))), ?_⟩
    refine ⟨_, rfl, a, ns, rfl, hS, h63, fun b l H1 B1 nb nl s1 => ?_⟩
    refine ⟨_, rfl, _, _, rfl, rfl, pow_ok (by decide), b, l, _, rfl, B1, by decide +kernel, by decide +kernel, fun v1 H2 p0 p1 B2 k2 => ?_⟩
    refine ⟨_, rfl, _, _, rfl, rfl, pow_ok (by decide), b, l, _, rfl, B2, by decide +kernel, by decide +kernel, fun v2 H3 q0 q1 B3 k3 => ⟨_, _, rfl, rfl, ?_⟩⟩
    have okv : okInt (.int (v1 - v2)) := by
      have h1 : v1 < 10 ^ 30 := p1
      have h2 : v2 < 10 ^ 30 := q1
      have h3 : (v1 - v2).natAbs < 10 ^ 30 := by omega
      exact ⟨_, rfl, log_of (by decide) (Nat.lt_trans h3 (by decide +kernel))⟩
    have ev : ∃ v, v = v1 - v2 := ⟨_, rfl⟩
    clear p0 p1 q0 q1 k2 k3 B2 B1
    -- the name
    refine ⟨⟨_, rfl⟩, _, rfl, b, l, _, rfl, B3, by decide, by decide, fun m H4 m0 m9 B4 k4 => ⟨m, rfl, by omega, by omega, fun Dn hDn => ?_⟩⟩
    have nDn := B4.free hDn
    refine lc_range (lo := 0) (n := m.toNat) (fun i H' => ∃ ys : List Str, H' Dn = some (.lst (ys.map V.str)) ∧ ys.length = i ∧ (∀ y ∈ ys, ∃ c, y = ⟨#[c]⟩ ∧ c < 16 ^ 8) ∧ Box H' b l)
      ⟨[], upd_same, rfl, fun y hy => absurd hy (by simp), B4.at nDn⟩ ?_ ?_
    · rintro i H' hi ⟨ys, g1, g2, g3, B'⟩
      refine ⟨rfl, _, rfl, b, l, _, rfl, B', by decide, by decide, fun q H5 a0 a1 B5 k5 => ?_⟩
      obtain ⟨c, ec, hc⟩ := abz a0 a1
      refine ⟨_, _, _, rfl, rfl, by decide +kernel, ec, _, (k5 Dn (Ne.symm nDn.1)).trans g1, small60 (by rw [List.length_map]; omega), ys ++ [⟨#[c]⟩], ?_, by rw [List.length_append, g2]; rfl, fun y hy => ?_, B5.at nDn⟩
      · rw [upd_same, map_app]
      · rcases List.mem_append.mp hy with z | z
        · exact g3 y z
        · exact ⟨c, List.mem_singleton.mp z, hc⟩
    rintro H5 ⟨ys, g1, g2, g3, B5⟩
    have fit := join_fit g3 (by omega)
    refine ⟨_, Dn, ys, rfl, rfl, .inl (SqL.of g1), fit.2, ?_⟩
    obtain ⟨okn, -⟩ := fit
    generalize Txt.join "" ys = nm at okn ⊢
    clear k4 B4 B3 g1 g2 g3 m0 m9 hDn nDn
    -- the ring
    refine ⟨_, rfl, b, l, _, rfl, B5, by decide, by decide, fun m2 H6 m0 m9 B6 k6 => ⟨m2, rfl, by omega, by omega, fun R hR => ?_⟩⟩
    have nR := B6.free hR
    refine lc_range (lo := 0) (n := m2.toNat) (fun i H' => ∃ ys : List Int, H' R = some (.lst (ys.map V.int)) ∧ ys.length = i ∧ (∀ y ∈ ys, y.natAbs ≤ 30) ∧ Box H' b l)
      ⟨[], upd_same, rfl, fun y hy => absurd hy (by simp), B6.at nR⟩ ?_ ?_
    · rintro i H' hi ⟨ys, g1, g2, g3, B'⟩
      refine ⟨rfl, _, rfl, b, l, _, rfl, B', by decide, by decide, fun q H7 a0 a1 B7 k7 => ?_⟩
      refine ⟨_, _, rfl, rfl, _, (k7 R (Ne.symm nR.1)).trans g1, small60 (by rw [List.length_map]; omega), ys ++ [q - 1], ?_, by rw [List.length_append, g2]; rfl, fun y hy => ?_, B7.at nR⟩
      · rw [upd_same, ← map_app]
      · rcases List.mem_append.mp hy with z | z
        · exact g3 y z
        · rw [List.mem_singleton.mp z]; omega
    rintro H7 ⟨rg, r1, r2, r3, B7⟩
    have r5 : rg.length ≤ 5 := by omega
    clear k6 B6 B5 m0 m9 hR nR r2
    -- the blames
    refine ⟨_, rfl, b, l, _, rfl, B7, by decide, by decide, fun m3 H8 m0 m9 B8 k8 => ⟨m3, rfl, by omega, by omega, fun D hD => ?_⟩⟩
    have nD := B8.free hD
    have nRb : R ≠ b := fun z => by
      obtain ⟨_, _, _, _, q, _⟩ := B7
      rw [← z, r1] at q
      have q' := HO.lst.inj (Option.some.inj q)
      cases rg with
      | nil => cases q'
      | cons x xs => cases q'
    have R8 := (k8 R nRb).trans r1
    have nRD : R ≠ D := ne_of_none R8 hD
    refine lc_range (lo := 0) (n := m3.toNat) (fun i H' => ∃ ts : List Addr, H' D = some (.lst (ts.map V.ref)) ∧ ts.length = i ∧ (∀ t ∈ ts, ∃ n : Int, H' t = some (.tup [.int n]) ∧ n.natAbs ≤ 40) ∧ Box H' b l ∧ H' R = some (.lst (rg.map V.int)))
      ⟨[], upd_same, rfl, fun y hy => absurd hy (by simp), B8.at nD, by rw [upd_ne nRD]; exact R8⟩ ?_ ?_
    · rintro i H' hi ⟨ts, g1, g2, g3, B', g4⟩
      refine ⟨rfl, _, rfl, b, l, _, rfl, B', by decide, by decide, fun q H9 a0 a1 B9 k9 => ?_⟩
      refine ⟨by show 1 ≤ sizeLine; decide, fun t ht => ?_⟩
      have G1 : H9 D = some (.lst (ts.map V.ref)) := (k9 D (Ne.symm nD.1)).trans g1
      have G4 : H9 R = some (.lst (rg.map V.int)) := (k9 R nRb).trans g4
      have nDt : D ≠ t := ne_of_none G1 ht
      have nRt : R ≠ t := ne_of_none G4 ht
      have nBt := B9.free ht
      have nRD' : R ≠ D := nRD
      refine ⟨_, by rw [upd_ne nDt]; exact G1, small60 (by rw [List.length_map]; omega), ts ++ [t], by rw [upd_same, map_app], by rw [List.length_append, g2]; rfl, fun y hy => ?_, (B9.at nBt).at nD, by rw [upd_ne nRD, upd_ne nRt]; exact G4⟩
      rcases List.mem_append.mp hy with z | z
      · obtain ⟨n, hn, hn2⟩ := g3 y z
        have nyb : y ≠ b := fun e => by
          obtain ⟨_, _, _, _, q, _⟩ := B'
          rw [← e, hn] at q
          cases q
        have hn9 := (k9 y nyb).trans hn
        have nyD : y ≠ D := fun e => by
          rw [e, G1] at hn9
          cases hn9
        exact ⟨n, by rw [upd_ne nyD, upd_ne (ne_of_none hn9 ht)]; exact hn9, hn2⟩
      · refine ⟨q, ?_, by omega⟩
        rw [List.mem_singleton.mp z, upd_ne (Ne.symm nDt), upd_same]
    rintro H9 ⟨ts, D9, t2, t3, B9, R9⟩
    have t5 : ts.length ≤ 5 := by omega
    clear k8 B8 B7 m0 m9 hD nD t2 R8 r1
    -- the two lists that are passed
    refine ⟨_, rfl, R, _, rfl, .inl (SqL.of R9), fun c1 hc1 => ?_⟩
    have nRc : R ≠ c1 := ne_of_none R9 hc1
    have nDc : D ≠ c1 := ne_of_none D9 hc1
    refine ⟨_, rfl, D, _, rfl, .inl (SqL.of (by rw [upd_ne nDc]; exact D9)), fun c2 hc2 => ?_⟩
    refine ⟨by show 2 ≤ sizeLine; decide, fun pp hpp => ?_⟩
    have FX : Fx (upd (upd (upd H9 c1 (.lst (rg.map V.int))) c2 (.lst (ts.map V.ref))) pp (.lst [V.ref c1, V.ref c2])) R D c1 c2 pp rg ts := by
      have s1 : Same H9 (upd H9 c1 (.lst (rg.map V.int))) := same_new hc1
      have s2 : Same (upd H9 c1 (.lst (rg.map V.int))) (upd (upd H9 c1 (.lst (rg.map V.int))) c2 (.lst (ts.map V.ref))) := same_new hc2
      have s3 : Same (upd (upd H9 c1 (.lst (rg.map V.int))) c2 (.lst (ts.map V.ref))) (upd (upd (upd H9 c1 (.lst (rg.map V.int))) c2 (.lst (ts.map V.ref))) pp (.lst [V.ref c1, V.ref c2])) := same_new hpp
      refine ⟨s3 _ _ (s2 _ _ (s1 _ _ R9)), s3 _ _ (s2 _ _ (s1 _ _ D9)), s3 _ _ (s2 _ _ upd_same), s3 _ _ upd_same, upd_same, fun t ht => ?_⟩
      obtain ⟨n, h1, h2⟩ := t3 t ht
      exact ⟨n, s3 _ _ (s2 _ _ (s1 _ _ h1)), h2⟩
    have n12 : c1 ≠ c2 := fun z => by rw [← z, upd_same] at hc2; cases hc2
    have nRc2 : R ≠ c2 := ne_of_none (show upd H9 c1 _ R = _ by rw [upd_ne nRc]; exact R9) hc2
    have nDc2 : D ≠ c2 := ne_of_none (show upd H9 c1 _ D = _ by rw [upd_ne nDc]; exact D9) hc2
    have n1p : c1 ≠ pp := ne_of_none (show upd (upd H9 c1 (.lst (rg.map V.int))) c2 _ c1 = _ by rw [upd_ne n12, upd_same]) hpp
    have n2p : c2 ≠ pp := ne_of_none (show upd (upd H9 c1 (.lst (rg.map V.int))) c2 _ c2 = _ from upd_same) hpp
    generalize upd (upd (upd H9 c1 (.lst (rg.map V.int))) c2 (.lst (ts.map V.ref))) pp (.lst [V.ref c1, V.ref c2]) = A0 at FX ⊢
    clear hpp hc2 hc1 B9 t3 R9 D9 ev
    refine ⟨_, rfl, ?_⟩
    refine mk_one okv fun e0 A1 he0 S E => ?_
    have FX := FX.same S
    have E0 := E
    clear S E he0
    refine ⟨_, rfl, ?_⟩
    refine mk_one okn fun e1 A2 he1 S E => ?_
    have FX := FX.same S
    have E0 := E0.same S
    have E1 := E
    clear S E he1
    refine ⟨_, rfl, ?_⟩
    refine mk_one okn fun e2 A3 he2 S E => ?_
    have FX := FX.same S
    have E0 := E0.same S
    have E1 := E1.same S
    have E2 := E
    clear S E he2
    refine ⟨_, rfl, ?_⟩
    refine mk_one okn fun e3 A4 he3 S E => ?_
    have FX := FX.same S
    have E0 := E0.same S
    have E1 := E1.same S
    have E2 := E2.same S
    have E3 := E
    clear S E he3
    refine ⟨_, rfl, ?_⟩
    refine mk_one okv fun e4 A5 he4 S E => ?_
    have FX := FX.same S
    have E0 := E0.same S
    have E1 := E1.same S
    have E2 := E2.same S
    have E3 := E3.same S
    have E4 := E
    clear S E he4
    refine ⟨by show 5 ≤ sizeLine; decide, fun L1 hL1 => ?_⟩
    have S := same_new (o := .lst [V.ref e0, V.ref e1, V.ref e2, V.ref e3, V.ref e4]) hL1
    have FX := FX.same S
    have E0 := E0.same S
    have E1 := E1.same S
    have E2 := E2.same S
    have E3 := E3.same S
    have E4 := E4.same S
    have NL : upd A5 L1 (.lst [V.ref e0, V.ref e1, V.ref e2, V.ref e3, V.ref e4]) L1 = some (.lst [V.ref e0, V.ref e1, V.ref e2, V.ref e3, V.ref e4]) := upd_same
    skip
    generalize upd A5 L1 (.lst [V.ref e0, V.ref e1, V.ref e2, V.ref e3, V.ref e4]) = A6 at FX NL E0 E1 E2 E3 E4 ⊢
    clear S hL1
    have HL := NL
    clear NL
    refine ⟨_, rfl, ?_⟩
    refine ⟨_, rfl, ?_⟩
    refine mk_one okv fun e5 A7 he5 S E => ?_
    have HL := S _ _ HL
    have FX := FX.same S
    have E0 := E0.same S
    have E1 := E1.same S
    have E2 := E2.same S
    have E3 := E3.same S
    have E4 := E4.same S
    have E5 := E
    clear S E he5
    refine ⟨_, rfl, pp, _, _, _, rfl, rfl, SqL.of FX.fpp, rfl, ?_⟩
    refine mk_lst FX.fc1 (by rw [List.length_map]; omega) (shown_r r3) fun e6 cR A8 he6 hcR S CR E => ?_
    have n1R : c1 ≠ cR := ne_of_none FX.fc1 hcR
    have n2R : c2 ≠ cR := ne_of_none FX.fc2 hcR
    have HL := S _ _ HL
    have FX := FX.same S
    have E0 := E0.same S
    have E1 := E1.same S
    have E2 := E2.same S
    have E3 := E3.same S
    have E4 := E4.same S
    have E5 := E5.same S
    have E6 := E
    clear S E he6
    refine ⟨_, rfl, pp, _, _, _, rfl, rfl, SqL.of FX.fpp, rfl, ?_⟩
    refine mk_lst FX.fc2 (by rw [List.length_map]; omega) (shown_d FX.t) fun e7 cB A9 he7 hcB S CB E => ?_
    have n1B : c1 ≠ cB := ne_of_none FX.fc1 hcB
    have n2B : c2 ≠ cB := ne_of_none FX.fc2 hcB
    have CR := S _ _ CR
    have HL := S _ _ HL
    have FX := FX.same S
    have E0 := E0.same S
    have E1 := E1.same S
    have E2 := E2.same S
    have E3 := E3.same S
    have E4 := E4.same S
    have E5 := E5.same S
    have E6 := E6.same S
    have E7 := E
    clear S E he7
    refine ⟨_, rfl, ?_⟩
    refine mk_one okn fun e8 A10 he8 S E => ?_
    have CR := S _ _ CR
    have CB := S _ _ CB
    have HL := S _ _ HL
    have FX := FX.same S
    have E0 := E0.same S
    have E1 := E1.same S
    have E2 := E2.same S
    have E3 := E3.same S
    have E4 := E4.same S
    have E5 := E5.same S
    have E6 := E6.same S
    have E7 := E7.same S
    have E8 := E
    clear S E he8
    refine ⟨by show 4 ≤ sizeLine; decide, fun L2 hL2 => ?_⟩
    have S := same_new (o := .lst [V.ref e5, V.ref e6, V.ref e7, V.ref e8]) hL2
    have CR := S _ _ CR
    have CB := S _ _ CB
    have HL := S _ _ HL
    have FX := FX.same S
    have E0 := E0.same S
    have E1 := E1.same S
    have E2 := E2.same S
    have E3 := E3.same S
    have E4 := E4.same S
    have E5 := E5.same S
    have E6 := E6.same S
    have E7 := E7.same S
    have E8 := E8.same S
    have NL : upd A10 L2 (.lst [V.ref e5, V.ref e6, V.ref e7, V.ref e8]) L2 = some (.lst [V.ref e5, V.ref e6, V.ref e7, V.ref e8]) := upd_same
    skip
    generalize upd A10 L2 (.lst [V.ref e5, V.ref e6, V.ref e7, V.ref e8]) = A11 at FX NL E0 E1 E2 E3 E4 E5 E6 E7 E8 CR CB HL ⊢
    clear S hL2
    refine ⟨L1, L2, _, _, rfl, rfl, HL, NL, by show 9 ≤ sizeLine; decide, fun L3 hL3 => ?_⟩
    have n1L : c1 ≠ L3 := ne_of_none FX.fc1 hL3
    have n2L : c2 ≠ L3 := ne_of_none FX.fc2 hL3
    have S := same_new (o := .lst ([V.ref e0, V.ref e1, V.ref e2, V.ref e3, V.ref e4] ++ [V.ref e5, V.ref e6, V.ref e7, V.ref e8])) hL3
    have CR := S _ _ CR
    have CB := S _ _ CB
    have FX := FX.same S
    have E0 := E0.same S
    have E1 := E1.same S
    have E2 := E2.same S
    have E3 := E3.same S
    have E4 := E4.same S
    have E5 := E5.same S
    have E6 := E6.same S
    have E7 := E7.same S
    have E8 := E8.same S
    have HL : upd A11 L3 (.lst ([V.ref e0, V.ref e1, V.ref e2, V.ref e3, V.ref e4] ++ [V.ref e5, V.ref e6, V.ref e7, V.ref e8])) L3 = some (.lst [V.ref e0, V.ref e1, V.ref e2, V.ref e3, V.ref e4, V.ref e5, V.ref e6, V.ref e7, V.ref e8]) := upd_same
    generalize upd A11 L3 (.lst ([V.ref e0, V.ref e1, V.ref e2, V.ref e3, V.ref e4] ++ [V.ref e5, V.ref e6, V.ref e7, V.ref e8])) = A12 at FX HL E0 E1 E2 E3 E4 E5 E6 E7 E8 CR CB ⊢
    clear S NL hL3
    clear n1L n2L
    refine ⟨_, rfl, ?_⟩
    refine ⟨_, rfl, ?_⟩
    refine mk_one okv fun e9 A13 he9 S E => ?_
    have CR := S _ _ CR
    have CB := S _ _ CB
    have HL := S _ _ HL
    have FX := FX.same S
    have E0 := E0.same S
    have E1 := E1.same S
    have E2 := E2.same S
    have E3 := E3.same S
    have E4 := E4.same S
    have E5 := E5.same S
    have E6 := E6.same S
    have E7 := E7.same S
    have E8 := E8.same S
    have E9 := E
    clear S E he9
    refine ⟨_, rfl, ?_⟩
    refine mk_one okv fun e10 A14 he10 S E => ?_
    have CR := S _ _ CR
    have CB := S _ _ CB
    have HL := S _ _ HL
    have FX := FX.same S
    have E0 := E0.same S
    have E1 := E1.same S
    have E2 := E2.same S
    have E3 := E3.same S
    have E4 := E4.same S
    have E5 := E5.same S
    have E6 := E6.same S
    have E7 := E7.same S
    have E8 := E8.same S
    have E9 := E9.same S
    have E10 := E
    clear S E he10
    refine mk_nil fun e11 A15 he11 S E => ?_
    have CR := S _ _ CR
    have CB := S _ _ CB
    have HL := S _ _ HL
    have FX := FX.same S
    have E0 := E0.same S
    have E1 := E1.same S
    have E2 := E2.same S
    have E3 := E3.same S
    have E4 := E4.same S
    have E5 := E5.same S
    have E6 := E6.same S
    have E7 := E7.same S
    have E8 := E8.same S
    have E9 := E9.same S
    have E10 := E10.same S
    have E11 := E
    clear S E he11
    refine mk_nil fun e12 A16 he12 S E => ?_
    have CR := S _ _ CR
    have CB := S _ _ CB
    have HL := S _ _ HL
    have FX := FX.same S
    have E0 := E0.same S
    have E1 := E1.same S
    have E2 := E2.same S
    have E3 := E3.same S
    have E4 := E4.same S
    have E5 := E5.same S
    have E6 := E6.same S
    have E7 := E7.same S
    have E8 := E8.same S
    have E9 := E9.same S
    have E10 := E10.same S
    have E11 := E11.same S
    have E12 := E
    clear S E he12
    refine mk_nil fun e13 A17 he13 S E => ?_
    have CR := S _ _ CR
    have CB := S _ _ CB
    have HL := S _ _ HL
    have FX := FX.same S
    have E0 := E0.same S
    have E1 := E1.same S
    have E2 := E2.same S
    have E3 := E3.same S
    have E4 := E4.same S
    have E5 := E5.same S
    have E6 := E6.same S
    have E7 := E7.same S
    have E8 := E8.same S
    have E9 := E9.same S
    have E10 := E10.same S
    have E11 := E11.same S
    have E12 := E12.same S
    have E13 := E
    clear S E he13
    refine ⟨by show 5 ≤ sizeLine; decide, fun L4 hL4 => ?_⟩
    have S := same_new (o := .lst [V.ref e9, V.ref e10, V.ref e11, V.ref e12, V.ref e13]) hL4
    have CR := S _ _ CR
    have CB := S _ _ CB
    have HL := S _ _ HL
    have FX := FX.same S
    have E0 := E0.same S
    have E1 := E1.same S
    have E2 := E2.same S
    have E3 := E3.same S
    have E4 := E4.same S
    have E5 := E5.same S
    have E6 := E6.same S
    have E7 := E7.same S
    have E8 := E8.same S
    have E9 := E9.same S
    have E10 := E10.same S
    have E11 := E11.same S
    have E12 := E12.same S
    have E13 := E13.same S
    have NL : upd A17 L4 (.lst [V.ref e9, V.ref e10, V.ref e11, V.ref e12, V.ref e13]) L4 = some (.lst [V.ref e9, V.ref e10, V.ref e11, V.ref e12, V.ref e13]) := upd_same
    skip
    generalize upd A17 L4 (.lst [V.ref e9, V.ref e10, V.ref e11, V.ref e12, V.ref e13]) = A18 at FX NL E0 E1 E2 E3 E4 E5 E6 E7 E8 E9 E10 E11 E12 E13 CR CB HL ⊢
    clear S hL4
    refine ⟨L3, L4, _, _, rfl, rfl, HL, NL, by show 14 ≤ sizeLine; decide, fun L5 hL5 => ?_⟩
    have n1L : c1 ≠ L5 := ne_of_none FX.fc1 hL5
    have n2L : c2 ≠ L5 := ne_of_none FX.fc2 hL5
    have S := same_new (o := .lst ([V.ref e0, V.ref e1, V.ref e2, V.ref e3, V.ref e4, V.ref e5, V.ref e6, V.ref e7, V.ref e8] ++ [V.ref e9, V.ref e10, V.ref e11, V.ref e12, V.ref e13])) hL5
    have CR := S _ _ CR
    have CB := S _ _ CB
    have FX := FX.same S
    have E0 := E0.same S
    have E1 := E1.same S
    have E2 := E2.same S
    have E3 := E3.same S
    have E4 := E4.same S
    have E5 := E5.same S
    have E6 := E6.same S
    have E7 := E7.same S
    have E8 := E8.same S
    have E9 := E9.same S
    have E10 := E10.same S
    have E11 := E11.same S
    have E12 := E12.same S
    have E13 := E13.same S
    have HL : upd A18 L5 (.lst ([V.ref e0, V.ref e1, V.ref e2, V.ref e3, V.ref e4, V.ref e5, V.ref e6, V.ref e7, V.ref e8] ++ [V.ref e9, V.ref e10, V.ref e11, V.ref e12, V.ref e13])) L5 = some (.lst [V.ref e0, V.ref e1, V.ref e2, V.ref e3, V.ref e4, V.ref e5, V.ref e6, V.ref e7, V.ref e8, V.ref e9, V.ref e10, V.ref e11, V.ref e12, V.ref e13]) := upd_same
    generalize upd A18 L5 (.lst ([V.ref e0, V.ref e1, V.ref e2, V.ref e3, V.ref e4, V.ref e5, V.ref e6, V.ref e7, V.ref e8] ++ [V.ref e9, V.ref e10, V.ref e11, V.ref e12, V.ref e13])) = A19 at FX HL E0 E1 E2 E3 E4 E5 E6 E7 E8 E9 E10 E11 E12 E13 CR CB ⊢
    clear S NL hL5
    -- what was passed is changed
    refine ⟨_, rfl, pp, _, _, _, rfl, rfl, SqL.of FX.fpp, rfl, .inl ⟨rfl, _, SqL.of FX.fc1⟩, c1, _, _, rfl, rfl, FX.fc1, small60 (by rw [List.length_map]; omega), ?_⟩
    have h2 : upd A19 c1 (.lst (rg.map V.int ++ [V.int 99])) c2 = some (.lst (ts.map V.ref)) := by rw [upd_ne (Ne.symm n12)]; exact FX.fc2
    have hp2 : upd A19 c1 (.lst (rg.map V.int ++ [V.int 99])) pp = some (.lst [V.ref c1, V.ref c2]) := by rw [upd_ne (Ne.symm n1p)]; exact FX.fpp
    refine ⟨_, rfl, pp, _, _, _, rfl, rfl, SqL.of hp2, rfl, .inl ⟨rfl, _, SqL.of h2⟩, c2, _, rfl, rfl, h2, ?_⟩
    have E0 := (E0.upd (o := .lst (rg.map V.int ++ [V.int 99])) FX.fc1).upd (o := .lst []) h2
    have E1 := (E1.upd (o := .lst (rg.map V.int ++ [V.int 99])) FX.fc1).upd (o := .lst []) h2
    have E2 := (E2.upd (o := .lst (rg.map V.int ++ [V.int 99])) FX.fc1).upd (o := .lst []) h2
    have E3 := (E3.upd (o := .lst (rg.map V.int ++ [V.int 99])) FX.fc1).upd (o := .lst []) h2
    have E4 := (E4.upd (o := .lst (rg.map V.int ++ [V.int 99])) FX.fc1).upd (o := .lst []) h2
    have E5 := (E5.upd (o := .lst (rg.map V.int ++ [V.int 99])) FX.fc1).upd (o := .lst []) h2
    have E6 := (E6.upd (o := .lst (rg.map V.int ++ [V.int 99])) FX.fc1).upd (o := .lst []) h2
    have E7 := (E7.upd (o := .lst (rg.map V.int ++ [V.int 99])) FX.fc1).upd (o := .lst []) h2
    have E8 := (E8.upd (o := .lst (rg.map V.int ++ [V.int 99])) FX.fc1).upd (o := .lst []) h2
    have E9 := (E9.upd (o := .lst (rg.map V.int ++ [V.int 99])) FX.fc1).upd (o := .lst []) h2
    have E10 := (E10.upd (o := .lst (rg.map V.int ++ [V.int 99])) FX.fc1).upd (o := .lst []) h2
    have E11 := (E11.upd (o := .lst (rg.map V.int ++ [V.int 99])) FX.fc1).upd (o := .lst []) h2
    have E12 := (E12.upd (o := .lst (rg.map V.int ++ [V.int 99])) FX.fc1).upd (o := .lst []) h2
    have E13 := (E13.upd (o := .lst (rg.map V.int ++ [V.int 99])) FX.fc1).upd (o := .lst []) h2
    have RZ : (upd (upd A19 c1 (.lst (rg.map V.int ++ [V.int 99]))) c2 (.lst [])) R = some (.lst (rg.map V.int)) := by rw [upd_ne nRc2, upd_ne nRc]; exact FX.r
    have DZ : (upd (upd A19 c1 (.lst (rg.map V.int ++ [V.int 99]))) c2 (.lst [])) D = some (.lst (ts.map V.ref)) := by rw [upd_ne nDc2, upd_ne nDc]; exact FX.d
    have CR : (upd (upd A19 c1 (.lst (rg.map V.int ++ [V.int 99]))) c2 (.lst [])) cR = some (.lst (rg.map V.int)) := by rw [upd_ne (Ne.symm n2R), upd_ne (Ne.symm n1R)]; exact CR
    have CB : (upd (upd A19 c1 (.lst (rg.map V.int ++ [V.int 99]))) c2 (.lst [])) cB = some (.lst (ts.map V.ref)) := by rw [upd_ne (Ne.symm n2B), upd_ne (Ne.symm n1B)]; exact CB
    have LZ : (upd (upd A19 c1 (.lst (rg.map V.int ++ [V.int 99]))) c2 (.lst [])) L5 = some (.lst (List.map V.ref [e0, e1, e2, e3, e4, e5, e6, e7, e8, e9, e10, e11, e12, e13])) := by rw [upd_ne (Ne.symm n2L), upd_ne (Ne.symm n1L)]; exact HL
    generalize upd (upd A19 c1 (.lst (rg.map V.int ++ [V.int 99]))) c2 (.lst []) = Z at E0 E1 E2 E3 E4 E5 E6 E7 E8 E9 E10 E11 E12 E13 RZ DZ CR CB LZ ⊢
    clear FX HL h2 hp2
    -- the classes
    refine ⟨_, rfl, L5, [e0, e1, e2, e3, e4, e5, e6, e7, e8, e9, e10, e11, e12, e13], rfl, LZ, rfl, fun i x hx => ?_, fun Y S => ⟨true, rfl, if_f rfl ?_⟩⟩
    · match i, hx with
      | 0, hx => cases hx; exact ⟨_, _, E0, kd 0 (by decide)⟩
      | 1, hx => cases hx; exact ⟨_, _, E1, kd 1 (by decide)⟩
      | 2, hx => cases hx; exact ⟨_, _, E2, kd 2 (by decide)⟩
      | 3, hx => cases hx; exact ⟨_, _, E3, kd 3 (by decide)⟩
      | 4, hx => cases hx; exact ⟨_, _, E4, kd 4 (by decide)⟩
      | 5, hx => cases hx; exact ⟨_, _, E5, kd 5 (by decide)⟩
      | 6, hx => cases hx; exact ⟨_, _, E6, kd 6 (by decide)⟩
      | 7, hx => cases hx; exact ⟨_, _, E7, kd 7 (by decide)⟩
      | 8, hx => cases hx; exact ⟨_, _, E8, kd 8 (by decide)⟩
      | 9, hx => cases hx; exact ⟨_, _, E9, kd 9 (by decide)⟩
      | 10, hx => cases hx; exact ⟨_, _, E10, kd 10 (by decide)⟩
      | 11, hx => cases hx; exact ⟨_, _, E11, kd 11 (by decide)⟩
      | 12, hx => cases hx; exact ⟨_, _, E12, kd 12 (by decide)⟩
      | 13, hx => cases hx; exact ⟨_, _, E13, kd 13 (by decide)⟩
      | i + 14, hx => simp at hx
    have E0 := E0.same S
    have E1 := E1.same S
    have E2 := E2.same S
    have E3 := E3.same S
    have E4 := E4.same S
    have E5 := E5.same S
    have E6 := E6.same S
    have E7 := E7.same S
    have E8 := E8.same S
    have E9 := E9.same S
    have E10 := E10.same S
    have E11 := E11.same S
    have E12 := E12.same S
    have E13 := E13.same S
    have RZ := S _ _ RZ
    have DZ := S _ _ DZ
    have CR := S _ _ CR
    have CB := S _ _ CB
    have LZ := S _ _ LZ
    clear S
    -- the numbers
    refine ⟨_, rfl, L5, _, _, _, rfl, rfl, SqL.of LZ, rfl, e0, cs 0, _, _, rfl, xf 0 (by decide), n0, E0, rfl, _, rfl, L5, _, _, _, rfl, rfl, SqL.of LZ, rfl, e4, cs 4, _, _, rfl, xf 4 (by decide), n4, E4, rfl, _, rfl, L5, _, _, _, rfl, rfl, SqL.of LZ, rfl, e5, cs 5, _, _, rfl, xf 5 (by decide), n5, E5, rfl, _, rfl, L5, _, _, _, rfl, rfl, SqL.of LZ, rfl, e9, cs 9, _, _, rfl, xf 9 (by decide), n9, E9, rfl, _, rfl, L5, _, _, _, rfl, rfl, SqL.of LZ, rfl, e10, cs 10, _, _, rfl, xf 10 (by decide), n10, E10, rfl, by show 5 ≤ sizeLine; decide, fun nL hnL => ?_⟩
    have S := same_new (o := .lst [V.int (v1 - v2), V.int (v1 - v2), V.int (v1 - v2), V.int (v1 - v2), V.int (v1 - v2)]) hnL
    have E0 := E0.same S
    have E1 := E1.same S
    have E2 := E2.same S
    have E3 := E3.same S
    have E4 := E4.same S
    have E5 := E5.same S
    have E6 := E6.same S
    have E7 := E7.same S
    have E8 := E8.same S
    have E9 := E9.same S
    have E10 := E10.same S
    have E11 := E11.same S
    have E12 := E12.same S
    have E13 := E13.same S
    have RZ := S _ _ RZ
    have DZ := S _ _ DZ
    have CR := S _ _ CR
    have CB := S _ _ CB
    have LZ := S _ _ LZ
    have NL : upd Y nL (.lst [V.int (v1 - v2), V.int (v1 - v2), V.int (v1 - v2), V.int (v1 - v2), V.int (v1 - v2)]) nL = some (.lst [V.int (v1 - v2), V.int (v1 - v2), V.int (v1 - v2), V.int (v1 - v2), V.int (v1 - v2)]) := upd_same
    generalize upd Y nL (.lst [V.int (v1 - v2), V.int (v1 - v2), V.int (v1 - v2), V.int (v1 - v2), V.int (v1 - v2)]) = Y2 at E0 E1 E2 E3 E4 E5 E6 E7 E8 E9 E10 E11 E12 E13 RZ DZ CR CB LZ NL ⊢
    clear S hnL
    refine ⟨_, rfl, nL, rfl, ⟨_, SqL.of NL⟩, fun D2 hD2 => ?_⟩
    refine lc_list (K := K) (a := nL) (xs := [V.int (v1 - v2), V.int (v1 - v2), V.int (v1 - v2), V.int (v1 - v2), V.int (v1 - v2)]) (fun i H' => H' D2 = some (.lst []) ∧ Same Y2 H') ⟨upd_same, same_new hD2⟩ (fun i H' _ h => SqL.of (h.2 _ _ NL)) ?_ ?_
    · rintro i x H' hi ⟨g1, g2⟩
      obtain rfl : x = V.int (v1 - v2) := by
        have z := List.mem_of_getElem? hi
        simpa using z
      refine ⟨rfl, _, rfl, v1 - v2, rfl, true, rfl, if_f rfl ?_⟩
      refine ⟨_, rfl, _, rfl, rfl, _, rfl, if_f (by simp) ⟨g1, g2⟩⟩
    rintro Y3 ⟨g1, S⟩
    have E0 := E0.same S
    have E1 := E1.same S
    have E2 := E2.same S
    have E3 := E3.same S
    have E4 := E4.same S
    have E5 := E5.same S
    have E6 := E6.same S
    have E7 := E7.same S
    have E8 := E8.same S
    have E9 := E9.same S
    have E10 := E10.same S
    have E11 := E11.same S
    have E12 := E12.same S
    have E13 := E13.same S
    have RZ := S _ _ RZ
    have DZ := S _ _ DZ
    have CR := S _ _ CR
    have CB := S _ _ CB
    have LZ := S _ _ LZ
    clear S NL hD2
    refine ⟨D2, _, rfl, .inl (SqL.of g1), _, _, rfl, rfl, _, rfl, if_f rfl ?_⟩
    -- the names
    refine ⟨_, rfl, L5, _, _, _, rfl, rfl, SqL.of LZ, rfl, e1, cs 1, _, _, rfl, xf 1 (by decide), n1, E1, rfl, _, rfl, L5, _, _, _, rfl, rfl, SqL.of LZ, rfl, e2, cs 2, _, _, rfl, xf 2 (by decide), n2, E2, rfl, _, rfl, L5, _, _, _, rfl, rfl, SqL.of LZ, rfl, e3, cs 3, _, _, rfl, xf 3 (by decide), n3, E3, rfl, _, rfl, L5, _, _, _, rfl, rfl, SqL.of LZ, rfl, e8, cs 8, _, _, rfl, xf 8 (by decide), n8, E8, rfl, by show 4 ≤ sizeLine; decide, fun nL hnL => ?_⟩
    have S := same_new (o := .lst [V.str nm, V.str nm, V.str nm, V.str nm]) hnL
    have E0 := E0.same S
    have E1 := E1.same S
    have E2 := E2.same S
    have E3 := E3.same S
    have E4 := E4.same S
    have E5 := E5.same S
    have E6 := E6.same S
    have E7 := E7.same S
    have E8 := E8.same S
    have E9 := E9.same S
    have E10 := E10.same S
    have E11 := E11.same S
    have E12 := E12.same S
    have E13 := E13.same S
    have RZ := S _ _ RZ
    have DZ := S _ _ DZ
    have CR := S _ _ CR
    have CB := S _ _ CB
    have LZ := S _ _ LZ
    have NL : upd Y3 nL (.lst [V.str nm, V.str nm, V.str nm, V.str nm]) nL = some (.lst [V.str nm, V.str nm, V.str nm, V.str nm]) := upd_same
    generalize upd Y3 nL (.lst [V.str nm, V.str nm, V.str nm, V.str nm]) = Y32 at E0 E1 E2 E3 E4 E5 E6 E7 E8 E9 E10 E11 E12 E13 RZ DZ CR CB LZ NL ⊢
    clear S hnL
    refine ⟨_, rfl, nL, rfl, ⟨_, SqL.of NL⟩, fun D2 hD2 => ?_⟩
    refine lc_list (K := K) (a := nL) (xs := [V.str nm, V.str nm, V.str nm, V.str nm]) (fun i H' => H' D2 = some (.lst []) ∧ Same Y32 H') ⟨upd_same, same_new hD2⟩ (fun i H' _ h => SqL.of (h.2 _ _ NL)) ?_ ?_
    · rintro i x H' hi ⟨g1, g2⟩
      obtain rfl : x = V.str nm := by
        have z := List.mem_of_getElem? hi
        simpa using z
      refine ⟨rfl, _, rfl, V.str nm, .ty "str", .type "str", .type "str", true, rfl, .ty _, .base (.str nm), by rfl, true, rfl, if_f rfl ?_⟩
      refine ⟨_, rfl, _, rfl, rfl, _, rfl, if_f (by simp) ⟨g1, g2⟩⟩
    rintro Y33 ⟨g1, S⟩
    have E0 := E0.same S
    have E1 := E1.same S
    have E2 := E2.same S
    have E3 := E3.same S
    have E4 := E4.same S
    have E5 := E5.same S
    have E6 := E6.same S
    have E7 := E7.same S
    have E8 := E8.same S
    have E9 := E9.same S
    have E10 := E10.same S
    have E11 := E11.same S
    have E12 := E12.same S
    have E13 := E13.same S
    have RZ := S _ _ RZ
    have DZ := S _ _ DZ
    have CR := S _ _ CR
    have CB := S _ _ CB
    have LZ := S _ _ LZ
    clear S NL hD2
    refine ⟨D2, _, rfl, .inl (SqL.of g1), _, _, rfl, rfl, _, rfl, if_f rfl ?_⟩
    -- the lists
    refine ⟨_, rfl, L5, _, _, _, rfl, rfl, SqL.of LZ, rfl, e6, cs 6, _, _, rfl, xf 6 (by decide), n6, E6, rfl, V.ref cR, .ty "list", .type "list", .type "list", true, rfl, .ty _, .base (.lst CR), by rfl, true, rfl, if_f rfl ?_⟩
    refine ⟨_, rfl, L5, _, _, _, rfl, rfl, SqL.of LZ, rfl, e7, cs 7, _, _, rfl, xf 7 (by decide), n7, E7, rfl, V.ref cB, .ty "list", .type "list", .type "list", true, rfl, .ty _, .base (.lst CB), by rfl, _, rfl, if_f rfl ?_⟩
    refine ⟨_, rfl, L5, _, _, _, rfl, rfl, SqL.of LZ, rfl, e6, cs 6, _, _, rfl, xf 6 (by decide), n6, E6, rfl, _, rfl, 1, by decide, .inl ⟨cR, R, _, _, rfl, rfl, SqL.of CR, SqL.of RZ, paired_refl fun x hx => .inl ⟨rfl, ?_⟩⟩, true, rfl, if_t rfl ?_⟩
    · obtain ⟨y, _, rfl⟩ := List.mem_map.mp hx
      rfl
    refine ⟨_, rfl, L5, _, _, _, rfl, rfl, SqL.of LZ, rfl, e7, cs 7, _, _, rfl, xf 7 (by decide), n7, E7, rfl, _, rfl, 1, by decide, .inl ⟨cB, D, _, _, rfl, rfl, SqL.of CB, SqL.of DZ, paired_refl fun x hx => ?_⟩, k _⟩
    obtain ⟨y, _, rfl⟩ := List.mem_map.mp hx
    exact .inr (.inl ⟨y, rfl, rfl⟩)

end
end Law

namespace Law
open PySem PySem.Spec PyProof.Rows L2 Sup NdefX
abbrev sE0 : Stmt := inClass (top 2) 0
abbrev sE1 : Stmt := inClass (top 3) 0
abbrev sE2 : Stmt := inClass (top 4) 0
abbrev sE3 : Stmt := inClass (top 5) 0
abbrev sE4 : Stmt := inClass (top 6) 0
abbrev sE5 : Stmt := inClass (top 7) 0
abbrev sE6 : Stmt := inClass (top 8) 0
abbrev sE7 : Stmt := inClass (top 9) 0
abbrev sE8 : Stmt := inClass (top 11) 0
abbrev sE9 : Stmt := inClass (top 12) 0
abbrev sE10 : Stmt := inClass (top 15) 0
abbrev sE11 : Stmt := inClass (top 10) 0
abbrev sE12 : Stmt := inClass (top 13) 0
abbrev sE13 : Stmt := inClass (top 14) 0
/-- an own class of errors, straight below LE -/
structure ClsR (K : PySem.W.Frag) (LE D : Addr) : Prop where
  mro : ∃ cd, PySem.W.clsIn K D = some cd ∧ cd.mro = [.ref D, .ref LE, .type "ValueError", .type "Exception", .type "BaseException", .type "object"]
  ty : PySem.W.typeIn K (.ref D) = some (.type "type")
  ex : ExcC K D
theorem kd_mk {K : PySem.W.Frag} {LE : Addr} {cl : List Addr} (h : ∀ i, i < 14 → ClsR K LE (cl.getD i 0)) (l1 : (PySem.W.clsIn K LE).isSome = true) (l2 : PySem.W.typeIn K (.ref LE) = some (.type "type")) (nod : (cl ++ [LE]).Nodup) (hlen : cl.length = 14) {j : Nat} (hj : j < 14) :
    KD K (fun i => cl.getD i 0) LE j (cl.getD j 0) := by
  obtain ⟨⟨cd, hcd, hm⟩, hty, hex⟩ := h j hj
  have sub : ∀ v : Value, PySem.W.subIn K (.ref (cl.getD j 0)) v = some (([.ref (cl.getD j 0), .ref LE, .type "ValueError", .type "Exception", .type "BaseException", .type "object"] : List Value).contains v) := fun v => by
    show PySem.W.mroIn K (cl.getD j 0) v = _
    unfold PySem.W.mroIn
    rw [hcd]
    show (if cd.mro.isEmpty = true then none else some (cd.mro.contains v)) = _
    rw [hm]
    rfl
  have nd := List.nodup_append.mp nod
  have getE : ∀ i, i < 14 → cl[i]? = some (cl.getD i 0) := fun i hi => by
    rw [List.getD_eq_getElem?_getD, List.getElem?_eq_getElem (by omega)]
    rfl
  have inj : ∀ i, i < 14 → cl.getD i 0 = cl.getD j 0 → i = j := fun i hi e => by
    refine (List.getElem?_inj (by omega : i < cl.length) nd.1).mp ?_
    rw [getE i hi, getE j hj, e]
  have nle : ∀ i, i < 14 → cl.getD i 0 ≠ LE := fun i hi => nd.2.2 _ (List.mem_of_getElem? (getE i hi)) _ List.mem_cons_self
  have one : ∀ (C : Addr), (PySem.W.clsIn K C).isSome = true → PySem.W.typeIn K (.ref C) = some (.type "type") → ∀ b, PySem.W.subIn K (.ref (cl.getD j 0)) (.ref C) = some b → C ≠ cl.getD j 0 → PySem.W.kitOne K (.ref (cl.getD j 0)) (.ref C) = some b := fun C c1 c2 b hb hne => by
    unfold PySem.W.kitOne
    rw [if_neg (fun z => hne (Value.ref.inj (beq_iff_eq.mp z)).symm)]
    show (if ((PySem.W.clsIn K C).isSome && PySem.W.typeIn K (.ref C) == some (.type "type")) = true then _ else _) = _
    rw [c1, c2]
    exact (if_pos (by rw [Bool.true_and]; exact beq_self_eq_true _)).trans hb
  refine ⟨hex, fun i hi => ?_, ?_, ?_⟩
  · by_cases c : i = j
    · subst c
      unfold PySem.W.kitOne
      rw [if_pos (beq_self_eq_true _), decide_eq_true rfl]
    · obtain ⟨⟨cd2, hcd2, _⟩, hty2, _⟩ := h i hi
      have hne : cl.getD i 0 ≠ cl.getD j 0 := fun e => c (inj i hi e)
      refine one _ (by rw [hcd2]; rfl) hty2 _ ?_ hne
      rw [sub, decide_eq_false c]
      have h1 : (Value.ref (cl.getD i 0) == Value.ref (cl.getD j 0)) = false := Bool.eq_false_iff.mpr fun z => hne (Value.ref.inj (beq_iff_eq.mp z))
      have h2 : (Value.ref (cl.getD i 0) == Value.ref LE) = false := Bool.eq_false_iff.mpr fun z => nle i hi (Value.ref.inj (beq_iff_eq.mp z))
      simp only [List.contains_cons, h1, h2, Bool.false_or]
      rfl
  · refine one LE l1 l2 true ?_ fun e => nle j hj e.symm
    rw [sub]
    have h2 : (Value.ref LE == Value.ref LE) = true := beq_self_eq_true _
    simp only [List.contains_cons, h2, Bool.true_or, Bool.or_true]
  · unfold PySem.W.kitOne
    rw [if_neg (by intro z; cases (beq_iff_eq.mp z))]
    show (if PySem.W.kitMeta "ValueError" = true then PySem.W.subIn K (.ref (cl.getD j 0)) (.type "ValueError") else none) = some true
    rw [if_pos (by decide +kernel), sub]
    have h2 : (Value.type "ValueError" == Value.type "ValueError") = true := beq_self_eq_true _
    simp only [List.contains_cons, h2, Bool.true_or, Bool.or_true]
set_option maxHeartbeats 0 in
theorem all_mk {P : Program} {w : World} {K : PySem.W.Frag} {h : Heap} {mg : Str → Option Value} {fa : Addr} (X : K.In h) (G : h.Ns mainGlobals mg) (hfa : mg "law" = some (.ref fa)) (htop : (P.main.scope.names.lookup ("super" : Str)).isSome = false)
    {fC : Addr} {odC anC : Option Addr} {slC : Array (Option Value)} {ocC kVC dcC pmC cdC ctC : Value}
    {fS : Addr} {odS anS : Option Addr} {slS : Array (Option Value)} {ocS kVS dcS pmS cdS ctS : Value}
    {fB : Addr} {odB anB : Option Addr} {slB : Array (Option Value)} {ocB kVB dcB pmB cdB ctB : Value}
    {fT : Addr} {odT anT : Option Addr} {slT : Array (Option Value)} {ocT kVT dcT pmT cdT ctT : Value}
    {fN : Addr} {odN anN : Option Addr} {slN : Array (Option Value)} {ocN kVN dcN pmN cdN ctN : Value}
    {fL : Addr} {odL anL : Option Addr} {slL : Array (Option Value)} {ocL kVL dcL pmL cdL ctL : Value}
    {LE : Addr}
    {C0 fi0 cd0 cc0 N0 : Addr} {nm0 q0 : Str} {bs0 : List Value} {sn0 : List Str} {sub0 : List Value} {ab0 : Bool} {col0 : Option Bool} {dd0 : Option Addr} {m00 m10 m20 m30 m50 : Option Value}
    {od0 an0 dk0 de0 : Option Addr} {sl0 sk0 se0 : Array (Option Value)} {oc0 kV0 dc0 pm0 ct0 ck0 ce0 : Value} {vk0 : Array Value} {fl0 : Str} {tf0 : Tok}
    {C1 fi1 cd1 cc1 N1 : Addr} {nm1 q1 : Str} {bs1 : List Value} {sn1 : List Str} {sub1 : List Value} {ab1 : Bool} {col1 : Option Bool} {dd1 : Option Addr} {m01 m11 m21 m31 m51 : Option Value}
    {od1 an1 dk1 de1 : Option Addr} {sl1 sk1 se1 : Array (Option Value)} {oc1 kV1 dc1 pm1 ct1 ck1 ce1 : Value} {vk1 : Array Value} {fl1 : Str} {tf1 : Tok}
    {C2 fi2 cd2 cc2 N2 : Addr} {nm2 q2 : Str} {bs2 : List Value} {sn2 : List Str} {sub2 : List Value} {ab2 : Bool} {col2 : Option Bool} {dd2 : Option Addr} {m02 m12 m22 m32 m52 : Option Value}
    {od2 an2 dk2 de2 : Option Addr} {sl2 sk2 se2 : Array (Option Value)} {oc2 kV2 dc2 pm2 ct2 ck2 ce2 : Value} {vk2 : Array Value} {fl2 : Str} {tf2 : Tok}
    {C3 fi3 cd3 cc3 N3 : Addr} {nm3 q3 : Str} {bs3 : List Value} {sn3 : List Str} {sub3 : List Value} {ab3 : Bool} {col3 : Option Bool} {dd3 : Option Addr} {m03 m13 m23 m33 m53 : Option Value}
    {od3 an3 dk3 de3 : Option Addr} {sl3 sk3 se3 : Array (Option Value)} {oc3 kV3 dc3 pm3 ct3 ck3 ce3 : Value} {vk3 : Array Value} {fl3 : Str} {tf3 : Tok}
    {C4 fi4 cd4 cc4 N4 : Addr} {nm4 q4 : Str} {bs4 : List Value} {sn4 : List Str} {sub4 : List Value} {ab4 : Bool} {col4 : Option Bool} {dd4 : Option Addr} {m04 m14 m24 m34 m54 : Option Value}
    {od4 an4 dk4 de4 : Option Addr} {sl4 sk4 se4 : Array (Option Value)} {oc4 kV4 dc4 pm4 ct4 ck4 ce4 : Value} {vk4 : Array Value} {fl4 : Str} {tf4 : Tok}
    {C5 fi5 cd5 cc5 N5 : Addr} {nm5 q5 : Str} {bs5 : List Value} {sn5 : List Str} {sub5 : List Value} {ab5 : Bool} {col5 : Option Bool} {dd5 : Option Addr} {m05 m15 m25 m35 m55 : Option Value}
    {od5 an5 dk5 de5 : Option Addr} {sl5 sk5 se5 : Array (Option Value)} {oc5 kV5 dc5 pm5 ct5 ck5 ce5 : Value} {vk5 : Array Value} {fl5 : Str} {tf5 : Tok}
    {C6 fi6 cd6 cc6 N6 : Addr} {nm6 q6 : Str} {bs6 : List Value} {sn6 : List Str} {sub6 : List Value} {ab6 : Bool} {col6 : Option Bool} {dd6 : Option Addr} {m06 m16 m26 m36 m56 : Option Value}
    {od6 an6 dk6 de6 : Option Addr} {sl6 sk6 se6 : Array (Option Value)} {oc6 kV6 dc6 pm6 ct6 ck6 ce6 : Value} {vk6 : Array Value} {fl6 : Str} {tf6 : Tok}
    {C7 fi7 cd7 cc7 N7 : Addr} {nm7 q7 : Str} {bs7 : List Value} {sn7 : List Str} {sub7 : List Value} {ab7 : Bool} {col7 : Option Bool} {dd7 : Option Addr} {m07 m17 m27 m37 m57 : Option Value}
    {od7 an7 dk7 de7 : Option Addr} {sl7 sk7 se7 : Array (Option Value)} {oc7 kV7 dc7 pm7 ct7 ck7 ce7 : Value} {vk7 : Array Value} {fl7 : Str} {tf7 : Tok}
    {C8 fi8 cd8 cc8 N8 : Addr} {nm8 q8 : Str} {bs8 : List Value} {sn8 : List Str} {sub8 : List Value} {ab8 : Bool} {col8 : Option Bool} {dd8 : Option Addr} {m08 m18 m28 m38 m58 : Option Value}
    {od8 an8 dk8 de8 : Option Addr} {sl8 sk8 se8 : Array (Option Value)} {oc8 kV8 dc8 pm8 ct8 ck8 ce8 : Value} {vk8 : Array Value} {fl8 : Str} {tf8 : Tok}
    {C9 fi9 cd9 cc9 N9 : Addr} {nm9 q9 : Str} {bs9 : List Value} {sn9 : List Str} {sub9 : List Value} {ab9 : Bool} {col9 : Option Bool} {dd9 : Option Addr} {m09 m19 m29 m39 m59 : Option Value}
    {od9 an9 dk9 de9 : Option Addr} {sl9 sk9 se9 : Array (Option Value)} {oc9 kV9 dc9 pm9 ct9 ck9 ce9 : Value} {vk9 : Array Value} {fl9 : Str} {tf9 : Tok}
    {C10 fi10 cd10 cc10 N10 : Addr} {nm10 q10 : Str} {bs10 : List Value} {sn10 : List Str} {sub10 : List Value} {ab10 : Bool} {col10 : Option Bool} {dd10 : Option Addr} {m010 m110 m210 m310 m510 : Option Value}
    {od10 an10 dk10 de10 : Option Addr} {sl10 sk10 se10 : Array (Option Value)} {oc10 kV10 dc10 pm10 ct10 ck10 ce10 : Value} {vk10 : Array Value} {fl10 : Str} {tf10 : Tok}
    {C11 fi11 cd11 cc11 N11 : Addr} {nm11 q11 : Str} {bs11 : List Value} {sn11 : List Str} {sub11 : List Value} {ab11 : Bool} {col11 : Option Bool} {dd11 : Option Addr} {m011 m111 m211 m311 m511 : Option Value}
    {od11 an11 dk11 de11 : Option Addr} {sl11 sk11 se11 : Array (Option Value)} {oc11 kV11 dc11 pm11 ct11 ck11 ce11 : Value} {vk11 : Array Value} {fl11 : Str} {tf11 : Tok}
    {C12 fi12 cd12 cc12 N12 : Addr} {nm12 q12 : Str} {bs12 : List Value} {sn12 : List Str} {sub12 : List Value} {ab12 : Bool} {col12 : Option Bool} {dd12 : Option Addr} {m012 m112 m212 m312 m512 : Option Value}
    {od12 an12 dk12 de12 : Option Addr} {sl12 sk12 se12 : Array (Option Value)} {oc12 kV12 dc12 pm12 ct12 ck12 ce12 : Value} {vk12 : Array Value} {fl12 : Str} {tf12 : Tok}
    {C13 fi13 cd13 cc13 N13 : Addr} {nm13 q13 : Str} {bs13 : List Value} {sn13 : List Str} {sub13 : List Value} {ab13 : Bool} {col13 : Option Bool} {dd13 : Option Addr} {m013 m113 m213 m313 m513 : Option Value}
    {od13 an13 dk13 de13 : Option Addr} {sl13 sk13 se13 : Array (Option Value)} {oc13 kV13 dc13 pm13 ct13 ck13 ce13 : Value} {vk13 : Array Value} {fl13 : Str} {tf13 : Tok}
    (aC : PySem.W.nsIn K mainGlobals "_law_classes" = some (some (.ref fC)))
    (lC : K.lookup fC = some ⟨ocC, odC, .func (PySem.W.fnOf "_law_classes" "_law_classes" (defArgs sCls) (defBody sCls) (defScope sCls) .none kVC dcC pmC anC cdC ctC), slC⟩)
    (cC : PySem.W.codeIn K cdC "_law_classes" = true)
    (kC : PySem.W.keepIn K (.ref fC) = true)
    (aS : PySem.W.nsIn K mainGlobals "_law_based" = some (some (.ref fS)))
    (lS : K.lookup fS = some ⟨ocS, odS, .func (PySem.W.fnOf "_law_based" "_law_based" (defArgs sBsd) (defBody sBsd) (defScope sBsd) .none kVS dcS pmS anS cdS ctS), slS⟩)
    (cS : PySem.W.codeIn K cdS "_law_based" = true)
    (kS : PySem.W.keepIn K (.ref fS) = true)
    (aB : PySem.W.nsIn K mainGlobals "_law_box" = some (some (.ref fB)))
    (lB : K.lookup fB = some ⟨ocB, odB, .func (PySem.W.fnOf "_law_box" "_law_box" (defArgs sBox) (defBody sBox) (defScope sBox) .none kVB dcB pmB anB cdB ctB), slB⟩)
    (cB : PySem.W.codeIn K cdB "_law_box" = true)
    (kB : PySem.W.keepIn K (.ref fB) = true)
    (aT : PySem.W.nsIn K mainGlobals "_law_take" = some (some (.ref fT)))
    (lT : K.lookup fT = some ⟨ocT, odT, .func (PySem.W.fnOf "_law_take" "_law_take" (defArgs sTake) (defBody sTake) (defScope sTake) .none kVT dcT pmT anT cdT ctT), slT⟩)
    (cT : PySem.W.codeIn K cdT "_law_take" = true)
    (kT : PySem.W.keepIn K (.ref fT) = true)
    (aN : PySem.W.nsIn K mainGlobals "_law_number" = some (some (.ref fN)))
    (lN : K.lookup fN = some ⟨ocN, odN, .func (PySem.W.fnOf "_law_number" "_law_number" (defArgs sNum) (defBody sNum) (defScope sNum) .none kVN dcN pmN anN cdN ctN), slN⟩)
    (cN : PySem.W.codeIn K cdN "_law_number" = true)
    (kN : PySem.W.keepIn K (.ref fN) = true)
    (aL : PySem.W.nsIn K mainGlobals "law" = some (some (.ref fL)))
    (lL : K.lookup fL = some ⟨ocL, odL, .func (PySem.W.fnOf "law" "law" (defArgs sLaw) (defBody sLaw) (defScope sLaw) .none kVL dcL pmL anL cdL ctL), slL⟩)
    (cL : PySem.W.codeIn K cdL "law" = true)
    (kL : PySem.W.keepIn K (.ref fL) = true)
    (opq : PySem.W.nsIn K cStatics "thirdparty.any" = some none)
    (nsup : PySem.W.nsIn K mainGlobals "super" = some none)
    (aLE : PySem.W.nsIn K mainGlobals "LadderError" = some (some (.ref LE)))
    (csL : (PySem.W.clsIn K LE).isSome = true)
    (tyL : PySem.W.typeIn K (.ref LE) = some (.type "type"))
    (xhn : PySem.W.specialIn K (.builtin "object.__class__") "__get__" = some (some (.builtin "getset_descriptor.__get__")))
    (xht : PySem.W.takesIn K (.builtin "object.__class__") = some true)
    (n_len : PySem.W.nsIn K mainGlobals "len" = some none)
    (n_int : PySem.W.nsIn K mainGlobals "int" = some none)
    (n_isinstance : PySem.W.nsIn K mainGlobals "isinstance" = some none)
    (n_bool : PySem.W.nsIn K mainGlobals "bool" = some none)
    (n_range : PySem.W.nsIn K mainGlobals "range" = some none)
    (n_list : PySem.W.nsIn K mainGlobals "list" = some none)
    (n_str : PySem.W.nsIn K mainGlobals "str" = some none)
    (n_ValueError : PySem.W.nsIn K mainGlobals "ValueError" = some none)
    (a0 : PySem.W.nsIn K mainGlobals "BadNumber" = some (some (.ref C0)))
    (x0 : K.lookup C0 = some (excClassObj nm0 q0 C0 N0 bs0 [.ref LE, .type "ValueError", .type "Exception", .type "BaseException", .type "object"] true sn0 sub0 ab0 col0 dd0 m00 m10 m20 m30 m50 "ValueError.__new__"))
    (sa0 : PySem.W.findIn K (.ref C0) "__setattr__" = some (some (.builtin "object.__setattr__")))
    (ga0 : PySem.W.findIn K (.ref C0) "__getattribute__" = some (some (.builtin "BaseException.__getattribute__")))
    (gg0 : PySem.W.findIn K (.ref C0) "__getattr__" = some none)
    (nb0 : PySem.W.findIn K (.ref C0) "value" = some none)
    (i0 : PySem.W.findIn K (.ref C0) "__init__" = some (some (.ref fi0)))
    (t0 : PySem.W.typeIn K (.ref fi0) = some (.type "function"))
    (l0 : K.lookup fi0 = some ⟨oc0, od0, .func (PySem.W.fnX "__init__" "BadNumber.__init__" (defArgs sE0) (defBody sE0) (defScope sE0) [("__class__", cc0)] .none kV0 dc0 pm0 an0 (.ref cd0) ct0), sl0⟩)
    (co0 : PySem.W.codeIn K (.ref cd0) "BadNumber.__init__" = true)
    (lk0 : K.lookup cd0 = some ⟨ck0, dk0, .fields vk0, sk0⟩)
    (vk0x : vk0[2]? = some (.str fl0 tf0))
    (fe0 : ((P.main.file : Str) == fl0) = true)
    (le0 : K.lookup cc0 = some ⟨ce0, de0, .cell (some (.ref C0)), se0⟩)
    (mr0 : PySem.W.mroIn K C0 (.ref C0) = some true)
    (up0 : PySem.W.ks_superIn K C0 C0 "__init__" = some (some (.builtin "ValueError.__init__")))
    (sv0 : PySem.W.subIn K (.ref C0) (.type "ValueError") = some true)
    (kc0 : PySem.W.keepIn K (.ref C0) = true)
    (eb0 : PySem.W.subIn K (.ref C0) (.type "BaseException") = some true)
    (ty0 : PySem.W.typeIn K (.ref C0) = some (.type "type"))
    (hd0 : PySem.W.hasDictIn K C0 = true)
    (ha0 : PySem.W.findIn K (.ref C0) "__class__" = some (some (.builtin "object.__class__")))
    (hm0 : PySem.W.mroIn K C0 (.type "object") = some true)
    (a1 : PySem.W.nsIn K mainGlobals "BadName" = some (some (.ref C1)))
    (x1 : K.lookup C1 = some (excClassObj nm1 q1 C1 N1 bs1 [.ref LE, .type "ValueError", .type "Exception", .type "BaseException", .type "object"] true sn1 sub1 ab1 col1 dd1 m01 m11 m21 m31 m51 "ValueError.__new__"))
    (sa1 : PySem.W.findIn K (.ref C1) "__setattr__" = some (some (.builtin "object.__setattr__")))
    (ga1 : PySem.W.findIn K (.ref C1) "__getattribute__" = some (some (.builtin "BaseException.__getattribute__")))
    (gg1 : PySem.W.findIn K (.ref C1) "__getattr__" = some none)
    (nb1 : PySem.W.findIn K (.ref C1) "name" = some none)
    (i1 : PySem.W.findIn K (.ref C1) "__init__" = some (some (.ref fi1)))
    (t1 : PySem.W.typeIn K (.ref fi1) = some (.type "function"))
    (l1 : K.lookup fi1 = some ⟨oc1, od1, .func (PySem.W.fnX "__init__" "BadName.__init__" (defArgs sE1) (defBody sE1) (defScope sE1) [("__class__", cc1)] .none kV1 dc1 pm1 an1 (.ref cd1) ct1), sl1⟩)
    (co1 : PySem.W.codeIn K (.ref cd1) "BadName.__init__" = true)
    (lk1 : K.lookup cd1 = some ⟨ck1, dk1, .fields vk1, sk1⟩)
    (vk1x : vk1[2]? = some (.str fl1 tf1))
    (fe1 : ((P.main.file : Str) == fl1) = true)
    (le1 : K.lookup cc1 = some ⟨ce1, de1, .cell (some (.ref C1)), se1⟩)
    (mr1 : PySem.W.mroIn K C1 (.ref C1) = some true)
    (up1 : PySem.W.ks_superIn K C1 C1 "__init__" = some (some (.builtin "ValueError.__init__")))
    (sv1 : PySem.W.subIn K (.ref C1) (.type "ValueError") = some true)
    (kc1 : PySem.W.keepIn K (.ref C1) = true)
    (eb1 : PySem.W.subIn K (.ref C1) (.type "BaseException") = some true)
    (ty1 : PySem.W.typeIn K (.ref C1) = some (.type "type"))
    (hd1 : PySem.W.hasDictIn K C1 = true)
    (ha1 : PySem.W.findIn K (.ref C1) "__class__" = some (some (.builtin "object.__class__")))
    (hm1 : PySem.W.mroIn K C1 (.type "object") = some true)
    (a2 : PySem.W.nsIn K mainGlobals "TakenName" = some (some (.ref C2)))
    (x2 : K.lookup C2 = some (excClassObj nm2 q2 C2 N2 bs2 [.ref LE, .type "ValueError", .type "Exception", .type "BaseException", .type "object"] true sn2 sub2 ab2 col2 dd2 m02 m12 m22 m32 m52 "ValueError.__new__"))
    (sa2 : PySem.W.findIn K (.ref C2) "__setattr__" = some (some (.builtin "object.__setattr__")))
    (ga2 : PySem.W.findIn K (.ref C2) "__getattribute__" = some (some (.builtin "BaseException.__getattribute__")))
    (gg2 : PySem.W.findIn K (.ref C2) "__getattr__" = some none)
    (nb2 : PySem.W.findIn K (.ref C2) "name" = some none)
    (i2 : PySem.W.findIn K (.ref C2) "__init__" = some (some (.ref fi2)))
    (t2 : PySem.W.typeIn K (.ref fi2) = some (.type "function"))
    (l2 : K.lookup fi2 = some ⟨oc2, od2, .func (PySem.W.fnX "__init__" "TakenName.__init__" (defArgs sE2) (defBody sE2) (defScope sE2) [("__class__", cc2)] .none kV2 dc2 pm2 an2 (.ref cd2) ct2), sl2⟩)
    (co2 : PySem.W.codeIn K (.ref cd2) "TakenName.__init__" = true)
    (lk2 : K.lookup cd2 = some ⟨ck2, dk2, .fields vk2, sk2⟩)
    (vk2x : vk2[2]? = some (.str fl2 tf2))
    (fe2 : ((P.main.file : Str) == fl2) = true)
    (le2 : K.lookup cc2 = some ⟨ce2, de2, .cell (some (.ref C2)), se2⟩)
    (mr2 : PySem.W.mroIn K C2 (.ref C2) = some true)
    (up2 : PySem.W.ks_superIn K C2 C2 "__init__" = some (some (.builtin "ValueError.__init__")))
    (sv2 : PySem.W.subIn K (.ref C2) (.type "ValueError") = some true)
    (kc2 : PySem.W.keepIn K (.ref C2) = true)
    (eb2 : PySem.W.subIn K (.ref C2) (.type "BaseException") = some true)
    (ty2 : PySem.W.typeIn K (.ref C2) = some (.type "type"))
    (hd2 : PySem.W.hasDictIn K C2 = true)
    (ha2 : PySem.W.findIn K (.ref C2) "__class__" = some (some (.builtin "object.__class__")))
    (hm2 : PySem.W.mroIn K C2 (.type "object") = some true)
    (a3 : PySem.W.nsIn K mainGlobals "UnknownName" = some (some (.ref C3)))
    (x3 : K.lookup C3 = some (excClassObj nm3 q3 C3 N3 bs3 [.ref LE, .type "ValueError", .type "Exception", .type "BaseException", .type "object"] true sn3 sub3 ab3 col3 dd3 m03 m13 m23 m33 m53 "ValueError.__new__"))
    (sa3 : PySem.W.findIn K (.ref C3) "__setattr__" = some (some (.builtin "object.__setattr__")))
    (ga3 : PySem.W.findIn K (.ref C3) "__getattribute__" = some (some (.builtin "BaseException.__getattribute__")))
    (gg3 : PySem.W.findIn K (.ref C3) "__getattr__" = some none)
    (nb3 : PySem.W.findIn K (.ref C3) "name" = some none)
    (i3 : PySem.W.findIn K (.ref C3) "__init__" = some (some (.ref fi3)))
    (t3 : PySem.W.typeIn K (.ref fi3) = some (.type "function"))
    (l3 : K.lookup fi3 = some ⟨oc3, od3, .func (PySem.W.fnX "__init__" "UnknownName.__init__" (defArgs sE3) (defBody sE3) (defScope sE3) [("__class__", cc3)] .none kV3 dc3 pm3 an3 (.ref cd3) ct3), sl3⟩)
    (co3 : PySem.W.codeIn K (.ref cd3) "UnknownName.__init__" = true)
    (lk3 : K.lookup cd3 = some ⟨ck3, dk3, .fields vk3, sk3⟩)
    (vk3x : vk3[2]? = some (.str fl3 tf3))
    (fe3 : ((P.main.file : Str) == fl3) = true)
    (le3 : K.lookup cc3 = some ⟨ce3, de3, .cell (some (.ref C3)), se3⟩)
    (mr3 : PySem.W.mroIn K C3 (.ref C3) = some true)
    (up3 : PySem.W.ks_superIn K C3 C3 "__init__" = some (some (.builtin "ValueError.__init__")))
    (sv3 : PySem.W.subIn K (.ref C3) (.type "ValueError") = some true)
    (kc3 : PySem.W.keepIn K (.ref C3) = true)
    (eb3 : PySem.W.subIn K (.ref C3) (.type "BaseException") = some true)
    (ty3 : PySem.W.typeIn K (.ref C3) = some (.type "type"))
    (hd3 : PySem.W.hasDictIn K C3 = true)
    (ha3 : PySem.W.findIn K (.ref C3) "__class__" = some (some (.builtin "object.__class__")))
    (hm3 : PySem.W.mroIn K C3 (.type "object") = some true)
    (a4 : PySem.W.nsIn K mainGlobals "NoPlace" = some (some (.ref C4)))
    (x4 : K.lookup C4 = some (excClassObj nm4 q4 C4 N4 bs4 [.ref LE, .type "ValueError", .type "Exception", .type "BaseException", .type "object"] true sn4 sub4 ab4 col4 dd4 m04 m14 m24 m34 m54 "ValueError.__new__"))
    (sa4 : PySem.W.findIn K (.ref C4) "__setattr__" = some (some (.builtin "object.__setattr__")))
    (ga4 : PySem.W.findIn K (.ref C4) "__getattribute__" = some (some (.builtin "BaseException.__getattribute__")))
    (gg4 : PySem.W.findIn K (.ref C4) "__getattr__" = some none)
    (nb4 : PySem.W.findIn K (.ref C4) "place" = some none)
    (i4 : PySem.W.findIn K (.ref C4) "__init__" = some (some (.ref fi4)))
    (t4 : PySem.W.typeIn K (.ref fi4) = some (.type "function"))
    (l4 : K.lookup fi4 = some ⟨oc4, od4, .func (PySem.W.fnX "__init__" "NoPlace.__init__" (defArgs sE4) (defBody sE4) (defScope sE4) [("__class__", cc4)] .none kV4 dc4 pm4 an4 (.ref cd4) ct4), sl4⟩)
    (co4 : PySem.W.codeIn K (.ref cd4) "NoPlace.__init__" = true)
    (lk4 : K.lookup cd4 = some ⟨ck4, dk4, .fields vk4, sk4⟩)
    (vk4x : vk4[2]? = some (.str fl4 tf4))
    (fe4 : ((P.main.file : Str) == fl4) = true)
    (le4 : K.lookup cc4 = some ⟨ce4, de4, .cell (some (.ref C4)), se4⟩)
    (mr4 : PySem.W.mroIn K C4 (.ref C4) = some true)
    (up4 : PySem.W.ks_superIn K C4 C4 "__init__" = some (some (.builtin "ValueError.__init__")))
    (sv4 : PySem.W.subIn K (.ref C4) (.type "ValueError") = some true)
    (kc4 : PySem.W.keepIn K (.ref C4) = true)
    (eb4 : PySem.W.subIn K (.ref C4) (.type "BaseException") = some true)
    (ty4 : PySem.W.typeIn K (.ref C4) = some (.type "type"))
    (hd4 : PySem.W.hasDictIn K C4 = true)
    (ha4 : PySem.W.findIn K (.ref C4) "__class__" = some (some (.builtin "object.__class__")))
    (hm4 : PySem.W.mroIn K C4 (.type "object") = some true)
    (a5 : PySem.W.nsIn K mainGlobals "TooMany" = some (some (.ref C5)))
    (x5 : K.lookup C5 = some (excClassObj nm5 q5 C5 N5 bs5 [.ref LE, .type "ValueError", .type "Exception", .type "BaseException", .type "object"] true sn5 sub5 ab5 col5 dd5 m05 m15 m25 m35 m55 "ValueError.__new__"))
    (sa5 : PySem.W.findIn K (.ref C5) "__setattr__" = some (some (.builtin "object.__setattr__")))
    (ga5 : PySem.W.findIn K (.ref C5) "__getattribute__" = some (some (.builtin "BaseException.__getattribute__")))
    (gg5 : PySem.W.findIn K (.ref C5) "__getattr__" = some none)
    (nb5 : PySem.W.findIn K (.ref C5) "count" = some none)
    (i5 : PySem.W.findIn K (.ref C5) "__init__" = some (some (.ref fi5)))
    (t5 : PySem.W.typeIn K (.ref fi5) = some (.type "function"))
    (l5 : K.lookup fi5 = some ⟨oc5, od5, .func (PySem.W.fnX "__init__" "TooMany.__init__" (defArgs sE5) (defBody sE5) (defScope sE5) [("__class__", cc5)] .none kV5 dc5 pm5 an5 (.ref cd5) ct5), sl5⟩)
    (co5 : PySem.W.codeIn K (.ref cd5) "TooMany.__init__" = true)
    (lk5 : K.lookup cd5 = some ⟨ck5, dk5, .fields vk5, sk5⟩)
    (vk5x : vk5[2]? = some (.str fl5 tf5))
    (fe5 : ((P.main.file : Str) == fl5) = true)
    (le5 : K.lookup cc5 = some ⟨ce5, de5, .cell (some (.ref C5)), se5⟩)
    (mr5 : PySem.W.mroIn K C5 (.ref C5) = some true)
    (up5 : PySem.W.ks_superIn K C5 C5 "__init__" = some (some (.builtin "ValueError.__init__")))
    (sv5 : PySem.W.subIn K (.ref C5) (.type "ValueError") = some true)
    (kc5 : PySem.W.keepIn K (.ref C5) = true)
    (eb5 : PySem.W.subIn K (.ref C5) (.type "BaseException") = some true)
    (ty5 : PySem.W.typeIn K (.ref C5) = some (.type "type"))
    (hd5 : PySem.W.hasDictIn K C5 = true)
    (ha5 : PySem.W.findIn K (.ref C5) "__class__" = some (some (.builtin "object.__class__")))
    (hm5 : PySem.W.mroIn K C5 (.type "object") = some true)
    (a6 : PySem.W.nsIn K mainGlobals "NoSite" = some (some (.ref C6)))
    (x6 : K.lookup C6 = some (excClassObj nm6 q6 C6 N6 bs6 [.ref LE, .type "ValueError", .type "Exception", .type "BaseException", .type "object"] true sn6 sub6 ab6 col6 dd6 m06 m16 m26 m36 m56 "ValueError.__new__"))
    (sa6 : PySem.W.findIn K (.ref C6) "__setattr__" = some (some (.builtin "object.__setattr__")))
    (ga6 : PySem.W.findIn K (.ref C6) "__getattribute__" = some (some (.builtin "BaseException.__getattribute__")))
    (gg6 : PySem.W.findIn K (.ref C6) "__getattr__" = some none)
    (nb6 : PySem.W.findIn K (.ref C6) "ring" = some none)
    (i6 : PySem.W.findIn K (.ref C6) "__init__" = some (some (.ref fi6)))
    (t6 : PySem.W.typeIn K (.ref fi6) = some (.type "function"))
    (l6 : K.lookup fi6 = some ⟨oc6, od6, .func (PySem.W.fnX "__init__" "NoSite.__init__" (defArgs sE6) (defBody sE6) (defScope sE6) [("__class__", cc6)] .none kV6 dc6 pm6 an6 (.ref cd6) ct6), sl6⟩)
    (co6 : PySem.W.codeIn K (.ref cd6) "NoSite.__init__" = true)
    (lk6 : K.lookup cd6 = some ⟨ck6, dk6, .fields vk6, sk6⟩)
    (vk6x : vk6[2]? = some (.str fl6 tf6))
    (fe6 : ((P.main.file : Str) == fl6) = true)
    (le6 : K.lookup cc6 = some ⟨ce6, de6, .cell (some (.ref C6)), se6⟩)
    (mr6 : PySem.W.mroIn K C6 (.ref C6) = some true)
    (up6 : PySem.W.ks_superIn K C6 C6 "__init__" = some (some (.builtin "ValueError.__init__")))
    (sv6 : PySem.W.subIn K (.ref C6) (.type "ValueError") = some true)
    (kc6 : PySem.W.keepIn K (.ref C6) = true)
    (eb6 : PySem.W.subIn K (.ref C6) (.type "BaseException") = some true)
    (ty6 : PySem.W.typeIn K (.ref C6) = some (.type "type"))
    (hd6 : PySem.W.hasDictIn K C6 = true)
    (ha6 : PySem.W.findIn K (.ref C6) "__class__" = some (some (.builtin "object.__class__")))
    (hm6 : PySem.W.mroIn K C6 (.type "object") = some true)
    (a7 : PySem.W.nsIn K mainGlobals "NoShape" = some (some (.ref C7)))
    (x7 : K.lookup C7 = some (excClassObj nm7 q7 C7 N7 bs7 [.ref LE, .type "ValueError", .type "Exception", .type "BaseException", .type "object"] true sn7 sub7 ab7 col7 dd7 m07 m17 m27 m37 m57 "ValueError.__new__"))
    (sa7 : PySem.W.findIn K (.ref C7) "__setattr__" = some (some (.builtin "object.__setattr__")))
    (ga7 : PySem.W.findIn K (.ref C7) "__getattribute__" = some (some (.builtin "BaseException.__getattribute__")))
    (gg7 : PySem.W.findIn K (.ref C7) "__getattr__" = some none)
    (nb7 : PySem.W.findIn K (.ref C7) "blames" = some none)
    (i7 : PySem.W.findIn K (.ref C7) "__init__" = some (some (.ref fi7)))
    (t7 : PySem.W.typeIn K (.ref fi7) = some (.type "function"))
    (l7 : K.lookup fi7 = some ⟨oc7, od7, .func (PySem.W.fnX "__init__" "NoShape.__init__" (defArgs sE7) (defBody sE7) (defScope sE7) [("__class__", cc7)] .none kV7 dc7 pm7 an7 (.ref cd7) ct7), sl7⟩)
    (co7 : PySem.W.codeIn K (.ref cd7) "NoShape.__init__" = true)
    (lk7 : K.lookup cd7 = some ⟨ck7, dk7, .fields vk7, sk7⟩)
    (vk7x : vk7[2]? = some (.str fl7 tf7))
    (fe7 : ((P.main.file : Str) == fl7) = true)
    (le7 : K.lookup cc7 = some ⟨ce7, de7, .cell (some (.ref C7)), se7⟩)
    (mr7 : PySem.W.mroIn K C7 (.ref C7) = some true)
    (up7 : PySem.W.ks_superIn K C7 C7 "__init__" = some (some (.builtin "ValueError.__init__")))
    (sv7 : PySem.W.subIn K (.ref C7) (.type "ValueError") = some true)
    (kc7 : PySem.W.keepIn K (.ref C7) = true)
    (eb7 : PySem.W.subIn K (.ref C7) (.type "BaseException") = some true)
    (ty7 : PySem.W.typeIn K (.ref C7) = some (.type "type"))
    (hd7 : PySem.W.hasDictIn K C7 = true)
    (ha7 : PySem.W.findIn K (.ref C7) "__class__" = some (some (.builtin "object.__class__")))
    (hm7 : PySem.W.mroIn K C7 (.type "object") = some true)
    (a8 : PySem.W.nsIn K mainGlobals "BadState" = some (some (.ref C8)))
    (x8 : K.lookup C8 = some (excClassObj nm8 q8 C8 N8 bs8 [.ref LE, .type "ValueError", .type "Exception", .type "BaseException", .type "object"] true sn8 sub8 ab8 col8 dd8 m08 m18 m28 m38 m58 "ValueError.__new__"))
    (sa8 : PySem.W.findIn K (.ref C8) "__setattr__" = some (some (.builtin "object.__setattr__")))
    (ga8 : PySem.W.findIn K (.ref C8) "__getattribute__" = some (some (.builtin "BaseException.__getattribute__")))
    (gg8 : PySem.W.findIn K (.ref C8) "__getattr__" = some none)
    (nb8 : PySem.W.findIn K (.ref C8) "state" = some none)
    (i8 : PySem.W.findIn K (.ref C8) "__init__" = some (some (.ref fi8)))
    (t8 : PySem.W.typeIn K (.ref fi8) = some (.type "function"))
    (l8 : K.lookup fi8 = some ⟨oc8, od8, .func (PySem.W.fnX "__init__" "BadState.__init__" (defArgs sE8) (defBody sE8) (defScope sE8) [("__class__", cc8)] .none kV8 dc8 pm8 an8 (.ref cd8) ct8), sl8⟩)
    (co8 : PySem.W.codeIn K (.ref cd8) "BadState.__init__" = true)
    (lk8 : K.lookup cd8 = some ⟨ck8, dk8, .fields vk8, sk8⟩)
    (vk8x : vk8[2]? = some (.str fl8 tf8))
    (fe8 : ((P.main.file : Str) == fl8) = true)
    (le8 : K.lookup cc8 = some ⟨ce8, de8, .cell (some (.ref C8)), se8⟩)
    (mr8 : PySem.W.mroIn K C8 (.ref C8) = some true)
    (up8 : PySem.W.ks_superIn K C8 C8 "__init__" = some (some (.builtin "ValueError.__init__")))
    (sv8 : PySem.W.subIn K (.ref C8) (.type "ValueError") = some true)
    (kc8 : PySem.W.keepIn K (.ref C8) = true)
    (eb8 : PySem.W.subIn K (.ref C8) (.type "BaseException") = some true)
    (ty8 : PySem.W.typeIn K (.ref C8) = some (.type "type"))
    (hd8 : PySem.W.hasDictIn K C8 = true)
    (ha8 : PySem.W.findIn K (.ref C8) "__class__" = some (some (.builtin "object.__class__")))
    (hm8 : PySem.W.mroIn K C8 (.type "object") = some true)
    (a9 : PySem.W.nsIn K mainGlobals "BadLine" = some (some (.ref C9)))
    (x9 : K.lookup C9 = some (excClassObj nm9 q9 C9 N9 bs9 [.ref LE, .type "ValueError", .type "Exception", .type "BaseException", .type "object"] true sn9 sub9 ab9 col9 dd9 m09 m19 m29 m39 m59 "ValueError.__new__"))
    (sa9 : PySem.W.findIn K (.ref C9) "__setattr__" = some (some (.builtin "object.__setattr__")))
    (ga9 : PySem.W.findIn K (.ref C9) "__getattribute__" = some (some (.builtin "BaseException.__getattribute__")))
    (gg9 : PySem.W.findIn K (.ref C9) "__getattr__" = some none)
    (nb9 : PySem.W.findIn K (.ref C9) "line" = some none)
    (i9 : PySem.W.findIn K (.ref C9) "__init__" = some (some (.ref fi9)))
    (t9 : PySem.W.typeIn K (.ref fi9) = some (.type "function"))
    (l9 : K.lookup fi9 = some ⟨oc9, od9, .func (PySem.W.fnX "__init__" "BadLine.__init__" (defArgs sE9) (defBody sE9) (defScope sE9) [("__class__", cc9)] .none kV9 dc9 pm9 an9 (.ref cd9) ct9), sl9⟩)
    (co9 : PySem.W.codeIn K (.ref cd9) "BadLine.__init__" = true)
    (lk9 : K.lookup cd9 = some ⟨ck9, dk9, .fields vk9, sk9⟩)
    (vk9x : vk9[2]? = some (.str fl9 tf9))
    (fe9 : ((P.main.file : Str) == fl9) = true)
    (le9 : K.lookup cc9 = some ⟨ce9, de9, .cell (some (.ref C9)), se9⟩)
    (mr9 : PySem.W.mroIn K C9 (.ref C9) = some true)
    (up9 : PySem.W.ks_superIn K C9 C9 "__init__" = some (some (.builtin "ValueError.__init__")))
    (sv9 : PySem.W.subIn K (.ref C9) (.type "ValueError") = some true)
    (kc9 : PySem.W.keepIn K (.ref C9) = true)
    (eb9 : PySem.W.subIn K (.ref C9) (.type "BaseException") = some true)
    (ty9 : PySem.W.typeIn K (.ref C9) = some (.type "type"))
    (hd9 : PySem.W.hasDictIn K C9 = true)
    (ha9 : PySem.W.findIn K (.ref C9) "__class__" = some (some (.builtin "object.__class__")))
    (hm9 : PySem.W.mroIn K C9 (.type "object") = some true)
    (a10 : PySem.W.nsIn K mainGlobals "DeedFailed" = some (some (.ref C10)))
    (x10 : K.lookup C10 = some (excClassObj nm10 q10 C10 N10 bs10 [.ref LE, .type "ValueError", .type "Exception", .type "BaseException", .type "object"] true sn10 sub10 ab10 col10 dd10 m010 m110 m210 m310 m510 "ValueError.__new__"))
    (sa10 : PySem.W.findIn K (.ref C10) "__setattr__" = some (some (.builtin "object.__setattr__")))
    (ga10 : PySem.W.findIn K (.ref C10) "__getattribute__" = some (some (.builtin "BaseException.__getattribute__")))
    (gg10 : PySem.W.findIn K (.ref C10) "__getattr__" = some none)
    (nb10 : PySem.W.findIn K (.ref C10) "row" = some none)
    (i10 : PySem.W.findIn K (.ref C10) "__init__" = some (some (.ref fi10)))
    (t10 : PySem.W.typeIn K (.ref fi10) = some (.type "function"))
    (l10 : K.lookup fi10 = some ⟨oc10, od10, .func (PySem.W.fnX "__init__" "DeedFailed.__init__" (defArgs sE10) (defBody sE10) (defScope sE10) [("__class__", cc10)] .none kV10 dc10 pm10 an10 (.ref cd10) ct10), sl10⟩)
    (co10 : PySem.W.codeIn K (.ref cd10) "DeedFailed.__init__" = true)
    (lk10 : K.lookup cd10 = some ⟨ck10, dk10, .fields vk10, sk10⟩)
    (vk10x : vk10[2]? = some (.str fl10 tf10))
    (fe10 : ((P.main.file : Str) == fl10) = true)
    (le10 : K.lookup cc10 = some ⟨ce10, de10, .cell (some (.ref C10)), se10⟩)
    (mr10 : PySem.W.mroIn K C10 (.ref C10) = some true)
    (up10 : PySem.W.ks_superIn K C10 C10 "__init__" = some (some (.builtin "ValueError.__init__")))
    (sv10 : PySem.W.subIn K (.ref C10) (.type "ValueError") = some true)
    (kc10 : PySem.W.keepIn K (.ref C10) = true)
    (eb10 : PySem.W.subIn K (.ref C10) (.type "BaseException") = some true)
    (ty10 : PySem.W.typeIn K (.ref C10) = some (.type "type"))
    (hd10 : PySem.W.hasDictIn K C10 = true)
    (ha10 : PySem.W.findIn K (.ref C10) "__class__" = some (some (.builtin "object.__class__")))
    (hm10 : PySem.W.mroIn K C10 (.type "object") = some true)
    (a11 : PySem.W.nsIn K mainGlobals "OtherSite" = some (some (.ref C11)))
    (x11 : K.lookup C11 = some (excClassObj nm11 q11 C11 N11 bs11 [.ref LE, .type "ValueError", .type "Exception", .type "BaseException", .type "object"] true sn11 sub11 ab11 col11 dd11 m011 m111 m211 m311 m511 "ValueError.__new__"))
    (sa11 : PySem.W.findIn K (.ref C11) "__setattr__" = some (some (.builtin "object.__setattr__")))
    (ga11 : PySem.W.findIn K (.ref C11) "__getattribute__" = some (some (.builtin "BaseException.__getattribute__")))
    (gg11 : PySem.W.findIn K (.ref C11) "__getattr__" = some none)
    (i11 : PySem.W.findIn K (.ref C11) "__init__" = some (some (.ref fi11)))
    (t11 : PySem.W.typeIn K (.ref fi11) = some (.type "function"))
    (l11 : K.lookup fi11 = some ⟨oc11, od11, .func (PySem.W.fnX "__init__" "OtherSite.__init__" (defArgs sE11) (defBody sE11) (defScope sE11) [("__class__", cc11)] .none kV11 dc11 pm11 an11 (.ref cd11) ct11), sl11⟩)
    (co11 : PySem.W.codeIn K (.ref cd11) "OtherSite.__init__" = true)
    (lk11 : K.lookup cd11 = some ⟨ck11, dk11, .fields vk11, sk11⟩)
    (vk11x : vk11[2]? = some (.str fl11 tf11))
    (fe11 : ((P.main.file : Str) == fl11) = true)
    (le11 : K.lookup cc11 = some ⟨ce11, de11, .cell (some (.ref C11)), se11⟩)
    (mr11 : PySem.W.mroIn K C11 (.ref C11) = some true)
    (up11 : PySem.W.ks_superIn K C11 C11 "__init__" = some (some (.builtin "ValueError.__init__")))
    (sv11 : PySem.W.subIn K (.ref C11) (.type "ValueError") = some true)
    (kc11 : PySem.W.keepIn K (.ref C11) = true)
    (eb11 : PySem.W.subIn K (.ref C11) (.type "BaseException") = some true)
    (ty11 : PySem.W.typeIn K (.ref C11) = some (.type "type"))
    (hd11 : PySem.W.hasDictIn K C11 = true)
    (ha11 : PySem.W.findIn K (.ref C11) "__class__" = some (some (.builtin "object.__class__")))
    (hm11 : PySem.W.mroIn K C11 (.type "object") = some true)
    (a12 : PySem.W.nsIn K mainGlobals "NothingToUndo" = some (some (.ref C12)))
    (x12 : K.lookup C12 = some (excClassObj nm12 q12 C12 N12 bs12 [.ref LE, .type "ValueError", .type "Exception", .type "BaseException", .type "object"] true sn12 sub12 ab12 col12 dd12 m012 m112 m212 m312 m512 "ValueError.__new__"))
    (sa12 : PySem.W.findIn K (.ref C12) "__setattr__" = some (some (.builtin "object.__setattr__")))
    (ga12 : PySem.W.findIn K (.ref C12) "__getattribute__" = some (some (.builtin "BaseException.__getattribute__")))
    (gg12 : PySem.W.findIn K (.ref C12) "__getattr__" = some none)
    (i12 : PySem.W.findIn K (.ref C12) "__init__" = some (some (.ref fi12)))
    (t12 : PySem.W.typeIn K (.ref fi12) = some (.type "function"))
    (l12 : K.lookup fi12 = some ⟨oc12, od12, .func (PySem.W.fnX "__init__" "NothingToUndo.__init__" (defArgs sE12) (defBody sE12) (defScope sE12) [("__class__", cc12)] .none kV12 dc12 pm12 an12 (.ref cd12) ct12), sl12⟩)
    (co12 : PySem.W.codeIn K (.ref cd12) "NothingToUndo.__init__" = true)
    (lk12 : K.lookup cd12 = some ⟨ck12, dk12, .fields vk12, sk12⟩)
    (vk12x : vk12[2]? = some (.str fl12 tf12))
    (fe12 : ((P.main.file : Str) == fl12) = true)
    (le12 : K.lookup cc12 = some ⟨ce12, de12, .cell (some (.ref C12)), se12⟩)
    (mr12 : PySem.W.mroIn K C12 (.ref C12) = some true)
    (up12 : PySem.W.ks_superIn K C12 C12 "__init__" = some (some (.builtin "ValueError.__init__")))
    (sv12 : PySem.W.subIn K (.ref C12) (.type "ValueError") = some true)
    (kc12 : PySem.W.keepIn K (.ref C12) = true)
    (eb12 : PySem.W.subIn K (.ref C12) (.type "BaseException") = some true)
    (ty12 : PySem.W.typeIn K (.ref C12) = some (.type "type"))
    (hd12 : PySem.W.hasDictIn K C12 = true)
    (ha12 : PySem.W.findIn K (.ref C12) "__class__" = some (some (.builtin "object.__class__")))
    (hm12 : PySem.W.mroIn K C12 (.type "object") = some true)
    (a13 : PySem.W.nsIn K mainGlobals "NothingToRedo" = some (some (.ref C13)))
    (x13 : K.lookup C13 = some (excClassObj nm13 q13 C13 N13 bs13 [.ref LE, .type "ValueError", .type "Exception", .type "BaseException", .type "object"] true sn13 sub13 ab13 col13 dd13 m013 m113 m213 m313 m513 "ValueError.__new__"))
    (sa13 : PySem.W.findIn K (.ref C13) "__setattr__" = some (some (.builtin "object.__setattr__")))
    (ga13 : PySem.W.findIn K (.ref C13) "__getattribute__" = some (some (.builtin "BaseException.__getattribute__")))
    (gg13 : PySem.W.findIn K (.ref C13) "__getattr__" = some none)
    (i13 : PySem.W.findIn K (.ref C13) "__init__" = some (some (.ref fi13)))
    (t13 : PySem.W.typeIn K (.ref fi13) = some (.type "function"))
    (l13 : K.lookup fi13 = some ⟨oc13, od13, .func (PySem.W.fnX "__init__" "NothingToRedo.__init__" (defArgs sE13) (defBody sE13) (defScope sE13) [("__class__", cc13)] .none kV13 dc13 pm13 an13 (.ref cd13) ct13), sl13⟩)
    (co13 : PySem.W.codeIn K (.ref cd13) "NothingToRedo.__init__" = true)
    (lk13 : K.lookup cd13 = some ⟨ck13, dk13, .fields vk13, sk13⟩)
    (vk13x : vk13[2]? = some (.str fl13 tf13))
    (fe13 : ((P.main.file : Str) == fl13) = true)
    (le13 : K.lookup cc13 = some ⟨ce13, de13, .cell (some (.ref C13)), se13⟩)
    (mr13 : PySem.W.mroIn K C13 (.ref C13) = some true)
    (up13 : PySem.W.ks_superIn K C13 C13 "__init__" = some (some (.builtin "ValueError.__init__")))
    (sv13 : PySem.W.subIn K (.ref C13) (.type "ValueError") = some true)
    (kc13 : PySem.W.keepIn K (.ref C13) = true)
    (eb13 : PySem.W.subIn K (.ref C13) (.type "BaseException") = some true)
    (ty13 : PySem.W.typeIn K (.ref C13) = some (.type "type"))
    (hd13 : PySem.W.hasDictIn K C13 = true)
    (ha13 : PySem.W.findIn K (.ref C13) "__class__" = some (some (.builtin "object.__class__")))
    (hm13 : PySem.W.mroIn K C13 (.type "object") = some true)
    (nod : (([C0, C1, C2, C3, C4, C5, C6, C7, C8, C9, C10, C11, C12, C13] ++ [LE]).Nodup)) :
    ∃ fd : FuncData, (∀ (s : Shared) (v : Value), BindsTo s fd ⟨[v], []⟩ [("_law_script", v)]) ∧ ∀ base : Heap, K.In base → base.Ns mainGlobals mg → FnOk P w K mg base CX0 4 fa fd ["_law_script"] (spLaw K) := by
  have e := hfa.symm.trans (PySem.W.mg_of X G aL)
  cases e
  have FC := fun_mk (st := sCls) lC cC kC
  have bC := FC.binds (ps := ["_law_error"]) fun _ _ _ _ _ _ us hl => match us, hl with | [_], _ => rfl
  have FS := fun_mk (st := sBsd) lS cS kS
  have bS := FS.binds (ps := ["_law_errors"]) fun _ _ _ _ _ _ us hl => match us, hl with | [_], _ => rfl
  have FB := fun_mk (st := sBox) lB cB kB
  have bB := FB.binds (ps := ["_law_script"]) fun _ _ _ _ _ _ us hl => match us, hl with | [_], _ => rfl
  have FT := fun_mk (st := sTake) lT cT kT
  have bT := FT.binds (ps := ["_law_box_here", "_law_size"]) fun _ _ _ _ _ _ us hl => match us, hl with | [_, _], _ => rfl
  have FN := fun_mk (st := sNum) lN cN kN
  have bN := FN.binds (ps := ["_law_x"]) fun _ _ _ _ _ _ us hl => match us, hl with | [_], _ => rfl
  have FL := fun_mk (st := sLaw) lL cL kL
  have bL := FL.binds (ps := ["_law_script"]) fun _ _ _ _ _ _ us hl => match us, hl with | [_], _ => rfl
  have O0 : OexC K C0 := ⟨⟨nm0, q0, N0, bs0, _, sn0, sub0, ab0, col0, dd0, m00, m10, m20, m30, m50, x0, by rfl⟩, sa0, eb0, ty0, kc0⟩
  have T0 : ErrTxt P K mg C0 fi0 cd0 cc0 "BadNumber.__init__" sE0 := {
    oex := O0
    iC := i0
    tI := t0
    fn := ⟨_, _, _, _, _, _, _, _, l0⟩
    code := co0
    file := ⟨_, vk0, fl0, tf0, lk0, rfl, vk0x, fe0⟩
    cell := ⟨_, le0, rfl⟩
    self := mr0
    opaque_ := opq
    up := up0
    isVE := sv0
    top := htop
    noSup := PySem.W.mg_none_of X G nsup }
  have M0 : ∀ base, MkE P w K mg base "BadNumber" C0 (spErr C0 "value" okInt) ["self", "value"] := fun base => by
    obtain ⟨fd, hfd, hb⟩ := err_int (w := w) (base := base) T0 rfl rfl (nscope_by (by decide +kernel)) (fun _ _ _ _ _ _ _ us hl => match us, hl with | [_, _], _ => rfl) rfl rfl rfl (by decide) (by decide) (by decide) nb0
    exact ⟨O0, PySem.W.mg_of X G a0, ⟨_, fd, i0, t0, hfd, hb⟩⟩
  have X0 : XfC K C0 := ⟨ga0, gg0, eb0, hd0⟩
  have Y0 : ExcC K C0 := ⟨ga0, gg0, eb0, hd0, ha0, xhn, xht, hm0⟩
  have Z0 : ClsR K LE C0 := ⟨by unfold PySem.W.clsIn; rw [x0]; exact ⟨_, rfl, rfl⟩, ty0, Y0⟩
  have O1 : OexC K C1 := ⟨⟨nm1, q1, N1, bs1, _, sn1, sub1, ab1, col1, dd1, m01, m11, m21, m31, m51, x1, by rfl⟩, sa1, eb1, ty1, kc1⟩
  have T1 : ErrTxt P K mg C1 fi1 cd1 cc1 "BadName.__init__" sE1 := {
    oex := O1
    iC := i1
    tI := t1
    fn := ⟨_, _, _, _, _, _, _, _, l1⟩
    code := co1
    file := ⟨_, vk1, fl1, tf1, lk1, rfl, vk1x, fe1⟩
    cell := ⟨_, le1, rfl⟩
    self := mr1
    opaque_ := opq
    up := up1
    isVE := sv1
    top := htop
    noSup := PySem.W.mg_none_of X G nsup }
  have M1 : ∀ base, MkE P w K mg base "BadName" C1 (spErr C1 "name" okTxt) ["self", "name"] := fun base => by
    obtain ⟨fd, hfd, hb⟩ := err_txt (w := w) (base := base) T1 rfl rfl (nscope_by (by decide +kernel)) (fun _ _ _ _ _ _ _ us hl => match us, hl with | [_, _], _ => rfl) rfl rfl rfl (by decide) (by decide) (by decide) nb1
    exact ⟨O1, PySem.W.mg_of X G a1, ⟨_, fd, i1, t1, hfd, hb⟩⟩
  have X1 : XfC K C1 := ⟨ga1, gg1, eb1, hd1⟩
  have Y1 : ExcC K C1 := ⟨ga1, gg1, eb1, hd1, ha1, xhn, xht, hm1⟩
  have Z1 : ClsR K LE C1 := ⟨by unfold PySem.W.clsIn; rw [x1]; exact ⟨_, rfl, rfl⟩, ty1, Y1⟩
  have O2 : OexC K C2 := ⟨⟨nm2, q2, N2, bs2, _, sn2, sub2, ab2, col2, dd2, m02, m12, m22, m32, m52, x2, by rfl⟩, sa2, eb2, ty2, kc2⟩
  have T2 : ErrTxt P K mg C2 fi2 cd2 cc2 "TakenName.__init__" sE2 := {
    oex := O2
    iC := i2
    tI := t2
    fn := ⟨_, _, _, _, _, _, _, _, l2⟩
    code := co2
    file := ⟨_, vk2, fl2, tf2, lk2, rfl, vk2x, fe2⟩
    cell := ⟨_, le2, rfl⟩
    self := mr2
    opaque_ := opq
    up := up2
    isVE := sv2
    top := htop
    noSup := PySem.W.mg_none_of X G nsup }
  have M2 : ∀ base, MkE P w K mg base "TakenName" C2 (spErr C2 "name" okTxt) ["self", "name"] := fun base => by
    obtain ⟨fd, hfd, hb⟩ := err_txt (w := w) (base := base) T2 rfl rfl (nscope_by (by decide +kernel)) (fun _ _ _ _ _ _ _ us hl => match us, hl with | [_, _], _ => rfl) rfl rfl rfl (by decide) (by decide) (by decide) nb2
    exact ⟨O2, PySem.W.mg_of X G a2, ⟨_, fd, i2, t2, hfd, hb⟩⟩
  have X2 : XfC K C2 := ⟨ga2, gg2, eb2, hd2⟩
  have Y2 : ExcC K C2 := ⟨ga2, gg2, eb2, hd2, ha2, xhn, xht, hm2⟩
  have Z2 : ClsR K LE C2 := ⟨by unfold PySem.W.clsIn; rw [x2]; exact ⟨_, rfl, rfl⟩, ty2, Y2⟩
  have O3 : OexC K C3 := ⟨⟨nm3, q3, N3, bs3, _, sn3, sub3, ab3, col3, dd3, m03, m13, m23, m33, m53, x3, by rfl⟩, sa3, eb3, ty3, kc3⟩
  have T3 : ErrTxt P K mg C3 fi3 cd3 cc3 "UnknownName.__init__" sE3 := {
    oex := O3
    iC := i3
    tI := t3
    fn := ⟨_, _, _, _, _, _, _, _, l3⟩
    code := co3
    file := ⟨_, vk3, fl3, tf3, lk3, rfl, vk3x, fe3⟩
    cell := ⟨_, le3, rfl⟩
    self := mr3
    opaque_ := opq
    up := up3
    isVE := sv3
    top := htop
    noSup := PySem.W.mg_none_of X G nsup }
  have M3 : ∀ base, MkE P w K mg base "UnknownName" C3 (spErr C3 "name" okTxt) ["self", "name"] := fun base => by
    obtain ⟨fd, hfd, hb⟩ := err_txt (w := w) (base := base) T3 rfl rfl (nscope_by (by decide +kernel)) (fun _ _ _ _ _ _ _ us hl => match us, hl with | [_, _], _ => rfl) rfl rfl rfl (by decide) (by decide) (by decide) nb3
    exact ⟨O3, PySem.W.mg_of X G a3, ⟨_, fd, i3, t3, hfd, hb⟩⟩
  have X3 : XfC K C3 := ⟨ga3, gg3, eb3, hd3⟩
  have Y3 : ExcC K C3 := ⟨ga3, gg3, eb3, hd3, ha3, xhn, xht, hm3⟩
  have Z3 : ClsR K LE C3 := ⟨by unfold PySem.W.clsIn; rw [x3]; exact ⟨_, rfl, rfl⟩, ty3, Y3⟩
  have O4 : OexC K C4 := ⟨⟨nm4, q4, N4, bs4, _, sn4, sub4, ab4, col4, dd4, m04, m14, m24, m34, m54, x4, by rfl⟩, sa4, eb4, ty4, kc4⟩
  have T4 : ErrTxt P K mg C4 fi4 cd4 cc4 "NoPlace.__init__" sE4 := {
    oex := O4
    iC := i4
    tI := t4
    fn := ⟨_, _, _, _, _, _, _, _, l4⟩
    code := co4
    file := ⟨_, vk4, fl4, tf4, lk4, rfl, vk4x, fe4⟩
    cell := ⟨_, le4, rfl⟩
    self := mr4
    opaque_ := opq
    up := up4
    isVE := sv4
    top := htop
    noSup := PySem.W.mg_none_of X G nsup }
  have M4 : ∀ base, MkE P w K mg base "NoPlace" C4 (spErr C4 "place" okInt) ["self", "place"] := fun base => by
    obtain ⟨fd, hfd, hb⟩ := err_int (w := w) (base := base) T4 rfl rfl (nscope_by (by decide +kernel)) (fun _ _ _ _ _ _ _ us hl => match us, hl with | [_, _], _ => rfl) rfl rfl rfl (by decide) (by decide) (by decide) nb4
    exact ⟨O4, PySem.W.mg_of X G a4, ⟨_, fd, i4, t4, hfd, hb⟩⟩
  have X4 : XfC K C4 := ⟨ga4, gg4, eb4, hd4⟩
  have Y4 : ExcC K C4 := ⟨ga4, gg4, eb4, hd4, ha4, xhn, xht, hm4⟩
  have Z4 : ClsR K LE C4 := ⟨by unfold PySem.W.clsIn; rw [x4]; exact ⟨_, rfl, rfl⟩, ty4, Y4⟩
  have O5 : OexC K C5 := ⟨⟨nm5, q5, N5, bs5, _, sn5, sub5, ab5, col5, dd5, m05, m15, m25, m35, m55, x5, by rfl⟩, sa5, eb5, ty5, kc5⟩
  have T5 : ErrTxt P K mg C5 fi5 cd5 cc5 "TooMany.__init__" sE5 := {
    oex := O5
    iC := i5
    tI := t5
    fn := ⟨_, _, _, _, _, _, _, _, l5⟩
    code := co5
    file := ⟨_, vk5, fl5, tf5, lk5, rfl, vk5x, fe5⟩
    cell := ⟨_, le5, rfl⟩
    self := mr5
    opaque_ := opq
    up := up5
    isVE := sv5
    top := htop
    noSup := PySem.W.mg_none_of X G nsup }
  have M5 : ∀ base, MkE P w K mg base "TooMany" C5 (spErr C5 "count" okInt) ["self", "count"] := fun base => by
    obtain ⟨fd, hfd, hb⟩ := err_int (w := w) (base := base) T5 rfl rfl (nscope_by (by decide +kernel)) (fun _ _ _ _ _ _ _ us hl => match us, hl with | [_, _], _ => rfl) rfl rfl rfl (by decide) (by decide) (by decide) nb5
    exact ⟨O5, PySem.W.mg_of X G a5, ⟨_, fd, i5, t5, hfd, hb⟩⟩
  have X5 : XfC K C5 := ⟨ga5, gg5, eb5, hd5⟩
  have Y5 : ExcC K C5 := ⟨ga5, gg5, eb5, hd5, ha5, xhn, xht, hm5⟩
  have Z5 : ClsR K LE C5 := ⟨by unfold PySem.W.clsIn; rw [x5]; exact ⟨_, rfl, rfl⟩, ty5, Y5⟩
  have O6 : OexC K C6 := ⟨⟨nm6, q6, N6, bs6, _, sn6, sub6, ab6, col6, dd6, m06, m16, m26, m36, m56, x6, by rfl⟩, sa6, eb6, ty6, kc6⟩
  have T6 : ErrTxt P K mg C6 fi6 cd6 cc6 "NoSite.__init__" sE6 := {
    oex := O6
    iC := i6
    tI := t6
    fn := ⟨_, _, _, _, _, _, _, _, l6⟩
    code := co6
    file := ⟨_, vk6, fl6, tf6, lk6, rfl, vk6x, fe6⟩
    cell := ⟨_, le6, rfl⟩
    self := mr6
    opaque_ := opq
    up := up6
    isVE := sv6
    top := htop
    noSup := PySem.W.mg_none_of X G nsup }
  have M6 : ∀ base, MkE P w K mg base "NoSite" C6 (spErrL C6 "ring") ["self", "ring"] := fun base => by
    obtain ⟨fd, hfd, hb⟩ := err_lst (w := w) (base := base) T6 rfl rfl (nscope_by (by decide +kernel)) (fun _ _ _ _ _ _ _ us hl => match us, hl with | [_, _], _ => rfl) rfl rfl rfl (by decide) (by decide) (by decide) nb6 rfl (PySem.W.mg_none_of X G n_list)
    exact ⟨O6, PySem.W.mg_of X G a6, ⟨_, fd, i6, t6, hfd, hb⟩⟩
  have X6 : XfC K C6 := ⟨ga6, gg6, eb6, hd6⟩
  have Y6 : ExcC K C6 := ⟨ga6, gg6, eb6, hd6, ha6, xhn, xht, hm6⟩
  have Z6 : ClsR K LE C6 := ⟨by unfold PySem.W.clsIn; rw [x6]; exact ⟨_, rfl, rfl⟩, ty6, Y6⟩
  have O7 : OexC K C7 := ⟨⟨nm7, q7, N7, bs7, _, sn7, sub7, ab7, col7, dd7, m07, m17, m27, m37, m57, x7, by rfl⟩, sa7, eb7, ty7, kc7⟩
  have T7 : ErrTxt P K mg C7 fi7 cd7 cc7 "NoShape.__init__" sE7 := {
    oex := O7
    iC := i7
    tI := t7
    fn := ⟨_, _, _, _, _, _, _, _, l7⟩
    code := co7
    file := ⟨_, vk7, fl7, tf7, lk7, rfl, vk7x, fe7⟩
    cell := ⟨_, le7, rfl⟩
    self := mr7
    opaque_ := opq
    up := up7
    isVE := sv7
    top := htop
    noSup := PySem.W.mg_none_of X G nsup }
  have M7 : ∀ base, MkE P w K mg base "NoShape" C7 (spErrL C7 "blames") ["self", "blames"] := fun base => by
    obtain ⟨fd, hfd, hb⟩ := err_lst (w := w) (base := base) T7 rfl rfl (nscope_by (by decide +kernel)) (fun _ _ _ _ _ _ _ us hl => match us, hl with | [_, _], _ => rfl) rfl rfl rfl (by decide) (by decide) (by decide) nb7 rfl (PySem.W.mg_none_of X G n_list)
    exact ⟨O7, PySem.W.mg_of X G a7, ⟨_, fd, i7, t7, hfd, hb⟩⟩
  have X7 : XfC K C7 := ⟨ga7, gg7, eb7, hd7⟩
  have Y7 : ExcC K C7 := ⟨ga7, gg7, eb7, hd7, ha7, xhn, xht, hm7⟩
  have Z7 : ClsR K LE C7 := ⟨by unfold PySem.W.clsIn; rw [x7]; exact ⟨_, rfl, rfl⟩, ty7, Y7⟩
  have O8 : OexC K C8 := ⟨⟨nm8, q8, N8, bs8, _, sn8, sub8, ab8, col8, dd8, m08, m18, m28, m38, m58, x8, by rfl⟩, sa8, eb8, ty8, kc8⟩
  have T8 : ErrTxt P K mg C8 fi8 cd8 cc8 "BadState.__init__" sE8 := {
    oex := O8
    iC := i8
    tI := t8
    fn := ⟨_, _, _, _, _, _, _, _, l8⟩
    code := co8
    file := ⟨_, vk8, fl8, tf8, lk8, rfl, vk8x, fe8⟩
    cell := ⟨_, le8, rfl⟩
    self := mr8
    opaque_ := opq
    up := up8
    isVE := sv8
    top := htop
    noSup := PySem.W.mg_none_of X G nsup }
  have M8 : ∀ base, MkE P w K mg base "BadState" C8 (spErr C8 "state" okTxt) ["self", "state"] := fun base => by
    obtain ⟨fd, hfd, hb⟩ := err_txt (w := w) (base := base) T8 rfl rfl (nscope_by (by decide +kernel)) (fun _ _ _ _ _ _ _ us hl => match us, hl with | [_, _], _ => rfl) rfl rfl rfl (by decide) (by decide) (by decide) nb8
    exact ⟨O8, PySem.W.mg_of X G a8, ⟨_, fd, i8, t8, hfd, hb⟩⟩
  have X8 : XfC K C8 := ⟨ga8, gg8, eb8, hd8⟩
  have Y8 : ExcC K C8 := ⟨ga8, gg8, eb8, hd8, ha8, xhn, xht, hm8⟩
  have Z8 : ClsR K LE C8 := ⟨by unfold PySem.W.clsIn; rw [x8]; exact ⟨_, rfl, rfl⟩, ty8, Y8⟩
  have O9 : OexC K C9 := ⟨⟨nm9, q9, N9, bs9, _, sn9, sub9, ab9, col9, dd9, m09, m19, m29, m39, m59, x9, by rfl⟩, sa9, eb9, ty9, kc9⟩
  have T9 : ErrTxt P K mg C9 fi9 cd9 cc9 "BadLine.__init__" sE9 := {
    oex := O9
    iC := i9
    tI := t9
    fn := ⟨_, _, _, _, _, _, _, _, l9⟩
    code := co9
    file := ⟨_, vk9, fl9, tf9, lk9, rfl, vk9x, fe9⟩
    cell := ⟨_, le9, rfl⟩
    self := mr9
    opaque_ := opq
    up := up9
    isVE := sv9
    top := htop
    noSup := PySem.W.mg_none_of X G nsup }
  have M9 : ∀ base, MkE P w K mg base "BadLine" C9 (spErr C9 "line" okInt) ["self", "line"] := fun base => by
    obtain ⟨fd, hfd, hb⟩ := err_int (w := w) (base := base) T9 rfl rfl (nscope_by (by decide +kernel)) (fun _ _ _ _ _ _ _ us hl => match us, hl with | [_, _], _ => rfl) rfl rfl rfl (by decide) (by decide) (by decide) nb9
    exact ⟨O9, PySem.W.mg_of X G a9, ⟨_, fd, i9, t9, hfd, hb⟩⟩
  have X9 : XfC K C9 := ⟨ga9, gg9, eb9, hd9⟩
  have Y9 : ExcC K C9 := ⟨ga9, gg9, eb9, hd9, ha9, xhn, xht, hm9⟩
  have Z9 : ClsR K LE C9 := ⟨by unfold PySem.W.clsIn; rw [x9]; exact ⟨_, rfl, rfl⟩, ty9, Y9⟩
  have O10 : OexC K C10 := ⟨⟨nm10, q10, N10, bs10, _, sn10, sub10, ab10, col10, dd10, m010, m110, m210, m310, m510, x10, by rfl⟩, sa10, eb10, ty10, kc10⟩
  have T10 : ErrTxt P K mg C10 fi10 cd10 cc10 "DeedFailed.__init__" sE10 := {
    oex := O10
    iC := i10
    tI := t10
    fn := ⟨_, _, _, _, _, _, _, _, l10⟩
    code := co10
    file := ⟨_, vk10, fl10, tf10, lk10, rfl, vk10x, fe10⟩
    cell := ⟨_, le10, rfl⟩
    self := mr10
    opaque_ := opq
    up := up10
    isVE := sv10
    top := htop
    noSup := PySem.W.mg_none_of X G nsup }
  have M10 : ∀ base, MkE P w K mg base "DeedFailed" C10 (spErr C10 "row" okInt) ["self", "row"] := fun base => by
    obtain ⟨fd, hfd, hb⟩ := err_int (w := w) (base := base) T10 rfl rfl (nscope_by (by decide +kernel)) (fun _ _ _ _ _ _ _ us hl => match us, hl with | [_, _], _ => rfl) rfl rfl rfl (by decide) (by decide) (by decide) nb10
    exact ⟨O10, PySem.W.mg_of X G a10, ⟨_, fd, i10, t10, hfd, hb⟩⟩
  have X10 : XfC K C10 := ⟨ga10, gg10, eb10, hd10⟩
  have Y10 : ExcC K C10 := ⟨ga10, gg10, eb10, hd10, ha10, xhn, xht, hm10⟩
  have Z10 : ClsR K LE C10 := ⟨by unfold PySem.W.clsIn; rw [x10]; exact ⟨_, rfl, rfl⟩, ty10, Y10⟩
  have O11 : OexC K C11 := ⟨⟨nm11, q11, N11, bs11, _, sn11, sub11, ab11, col11, dd11, m011, m111, m211, m311, m511, x11, by rfl⟩, sa11, eb11, ty11, kc11⟩
  have T11 : ErrTxt P K mg C11 fi11 cd11 cc11 "OtherSite.__init__" sE11 := {
    oex := O11
    iC := i11
    tI := t11
    fn := ⟨_, _, _, _, _, _, _, _, l11⟩
    code := co11
    file := ⟨_, vk11, fl11, tf11, lk11, rfl, vk11x, fe11⟩
    cell := ⟨_, le11, rfl⟩
    self := mr11
    opaque_ := opq
    up := up11
    isVE := sv11
    top := htop
    noSup := PySem.W.mg_none_of X G nsup }
  have M11 : ∀ base, MkE P w K mg base "OtherSite" C11 (spErr0 C11) ["self"] := fun base => by
    obtain ⟨fd, hfd, hb⟩ := err_nil (w := w) (base := base) T11 rfl rfl (nscope_by (by decide +kernel)) (fun _ _ _ _ _ _ _ us hl => match us, hl with | [_], _ => rfl) rfl rfl rfl
    exact ⟨O11, PySem.W.mg_of X G a11, ⟨_, fd, i11, t11, hfd, hb⟩⟩
  have X11 : XfC K C11 := ⟨ga11, gg11, eb11, hd11⟩
  have Y11 : ExcC K C11 := ⟨ga11, gg11, eb11, hd11, ha11, xhn, xht, hm11⟩
  have Z11 : ClsR K LE C11 := ⟨by unfold PySem.W.clsIn; rw [x11]; exact ⟨_, rfl, rfl⟩, ty11, Y11⟩
  have O12 : OexC K C12 := ⟨⟨nm12, q12, N12, bs12, _, sn12, sub12, ab12, col12, dd12, m012, m112, m212, m312, m512, x12, by rfl⟩, sa12, eb12, ty12, kc12⟩
  have T12 : ErrTxt P K mg C12 fi12 cd12 cc12 "NothingToUndo.__init__" sE12 := {
    oex := O12
    iC := i12
    tI := t12
    fn := ⟨_, _, _, _, _, _, _, _, l12⟩
    code := co12
    file := ⟨_, vk12, fl12, tf12, lk12, rfl, vk12x, fe12⟩
    cell := ⟨_, le12, rfl⟩
    self := mr12
    opaque_ := opq
    up := up12
    isVE := sv12
    top := htop
    noSup := PySem.W.mg_none_of X G nsup }
  have M12 : ∀ base, MkE P w K mg base "NothingToUndo" C12 (spErr0 C12) ["self"] := fun base => by
    obtain ⟨fd, hfd, hb⟩ := err_nil (w := w) (base := base) T12 rfl rfl (nscope_by (by decide +kernel)) (fun _ _ _ _ _ _ _ us hl => match us, hl with | [_], _ => rfl) rfl rfl rfl
    exact ⟨O12, PySem.W.mg_of X G a12, ⟨_, fd, i12, t12, hfd, hb⟩⟩
  have X12 : XfC K C12 := ⟨ga12, gg12, eb12, hd12⟩
  have Y12 : ExcC K C12 := ⟨ga12, gg12, eb12, hd12, ha12, xhn, xht, hm12⟩
  have Z12 : ClsR K LE C12 := ⟨by unfold PySem.W.clsIn; rw [x12]; exact ⟨_, rfl, rfl⟩, ty12, Y12⟩
  have O13 : OexC K C13 := ⟨⟨nm13, q13, N13, bs13, _, sn13, sub13, ab13, col13, dd13, m013, m113, m213, m313, m513, x13, by rfl⟩, sa13, eb13, ty13, kc13⟩
  have T13 : ErrTxt P K mg C13 fi13 cd13 cc13 "NothingToRedo.__init__" sE13 := {
    oex := O13
    iC := i13
    tI := t13
    fn := ⟨_, _, _, _, _, _, _, _, l13⟩
    code := co13
    file := ⟨_, vk13, fl13, tf13, lk13, rfl, vk13x, fe13⟩
    cell := ⟨_, le13, rfl⟩
    self := mr13
    opaque_ := opq
    up := up13
    isVE := sv13
    top := htop
    noSup := PySem.W.mg_none_of X G nsup }
  have M13 : ∀ base, MkE P w K mg base "NothingToRedo" C13 (spErr0 C13) ["self"] := fun base => by
    obtain ⟨fd, hfd, hb⟩ := err_nil (w := w) (base := base) T13 rfl rfl (nscope_by (by decide +kernel)) (fun _ _ _ _ _ _ _ us hl => match us, hl with | [_], _ => rfl) rfl rfl rfl
    exact ⟨O13, PySem.W.mg_of X G a13, ⟨_, fd, i13, t13, hfd, hb⟩⟩
  have X13 : XfC K C13 := ⟨ga13, gg13, eb13, hd13⟩
  have Y13 : ExcC K C13 := ⟨ga13, gg13, eb13, hd13, ha13, xhn, xht, hm13⟩
  have Z13 : ClsR K LE C13 := ⟨by unfold PySem.W.clsIn; rw [x13]; exact ⟨_, rfl, rfl⟩, ty13, Y13⟩
  have nl : ([C0, C1, C2, C3, C4, C5, C6, C7, C8, C9, C10, C11, C12, C13] ++ [LE]).length = 15 := rfl
  have CS : ∀ i, i < 14 → ClsR K LE ([C0, C1, C2, C3, C4, C5, C6, C7, C8, C9, C10, C11, C12, C13].getD i 0) := fun i hi => by
    match i, hi with
    | 0, _ => exact Z0
    | 1, _ => exact Z1
    | 2, _ => exact Z2
    | 3, _ => exact Z3
    | 4, _ => exact Z4
    | 5, _ => exact Z5
    | 6, _ => exact Z6
    | 7, _ => exact Z7
    | 8, _ => exact Z8
    | 9, _ => exact Z9
    | 10, _ => exact Z10
    | 11, _ => exact Z11
    | 12, _ => exact Z12
    | 13, _ => exact Z13
    | i + 14, hi => exact absurd hi (by omega)
  have KX : ∀ i, i < 14 → KD K (fun i => [C0, C1, C2, C3, C4, C5, C6, C7, C8, C9, C10, C11, C12, C13].getD i 0) LE i ([C0, C1, C2, C3, C4, C5, C6, C7, C8, C9, C10, C11, C12, C13].getD i 0) := fun i hi => kd_mk CS csL tyL nod rfl hi
  have XX : ∀ i, i < 14 → XfC K ([C0, C1, C2, C3, C4, C5, C6, C7, C8, C9, C10, C11, C12, C13].getD i 0) := fun i hi => by
    match i, hi with
    | 0, _ => exact X0
    | 1, _ => exact X1
    | 2, _ => exact X2
    | 3, _ => exact X3
    | 4, _ => exact X4
    | 5, _ => exact X5
    | 6, _ => exact X6
    | 7, _ => exact X7
    | 8, _ => exact X8
    | 9, _ => exact X9
    | 10, _ => exact X10
    | 11, _ => exact X11
    | 12, _ => exact X12
    | 13, _ => exact X13
    | i + 14, hi => exact absurd hi (by omega)
  exact ⟨PySem.W.fnOf "law" "law" (defArgs sLaw) (defBody sLaw) (defScope sLaw) .none kVL dcL pmL anL cdL ctL, fun s v => .of_eq rfl, fun base _ _ => ok_law (cs := fun i => [C0, C1, C2, C3, C4, C5, C6, C7, C8, C9, C10, C11, C12, C13].getD i 0) (LE := LE) FL { box := PySem.W.mg_of X G aB, take := PySem.W.mg_of X G aT, num := PySem.W.mg_of X G aN, based := PySem.W.mg_of X G aS, b_range := PySem.W.mg_none_of X G n_range, b_len := PySem.W.mg_none_of X G n_len, b_list := PySem.W.mg_none_of X G n_list, b_str := PySem.W.mg_none_of X G n_str, b_isinstance := PySem.W.mg_none_of X G n_isinstance }
      { g_BadNumber := PySem.W.mg_of X G a0, g_BadName := PySem.W.mg_of X G a1, g_TakenName := PySem.W.mg_of X G a2, g_UnknownName := PySem.W.mg_of X G a3, g_NoPlace := PySem.W.mg_of X G a4, g_TooMany := PySem.W.mg_of X G a5, g_NoSite := PySem.W.mg_of X G a6, g_NoShape := PySem.W.mg_of X G a7, g_BadState := PySem.W.mg_of X G a8, g_BadLine := PySem.W.mg_of X G a9, g_DeedFailed := PySem.W.mg_of X G a10, g_OtherSite := PySem.W.mg_of X G a11, g_NothingToUndo := PySem.W.mg_of X G a12, g_NothingToRedo := PySem.W.mg_of X G a13, g_LE := PySem.W.mg_of X G aLE, ve := PySem.W.mg_none_of X G n_ValueError, isi := PySem.W.mg_none_of X G n_isinstance, len := PySem.W.mg_none_of X G n_len, range := PySem.W.mg_none_of X G n_range }
      ⟨PySem.W.mg_none_of X G n_len, PySem.W.mg_none_of X G n_int⟩ ⟨PySem.W.mg_none_of X G n_isinstance, PySem.W.mg_none_of X G n_int, PySem.W.mg_none_of X G n_bool⟩ FB bB FT bT FN bN FS bS FC bC (PySem.W.mg_of X G aC) KX XX
      (M0 base) nb0 (M1 base) nb1 (M2 base) nb2 (M3 base) nb3 (M4 base) nb4 (M5 base) nb5 (M6 base) nb6 (M7 base) nb7 (M8 base) nb8 (M9 base) nb9 (M10 base) nb10 (M11 base) (M12 base) (M13 base)⟩
theorem walk {l : PySem.W.OpenLaw} {q : Program} {loose : List Str} {XP : (Str → Option Value) → Heap → Prop} {YP : World → Heap → Prop} {d : DefRec} {K : Params → PySem.W.Frag} (hn : l.most = some 63) (hdf : d.params.defaults = [])
    (hY : ∀ (w : World) (h : Heap), YP w h → (K w.params).In h)
    (F : ∀ (w : World) (mg : Str → Option Value) (fa : Addr) (h : Heap), (K w.params).In h → h.Ns mainGlobals mg → mg d.name = some (.ref fa) →
      ∃ fd : FuncData, (∀ (s : Shared) (u : Value), BindsTo s fd ⟨[u], []⟩ [("_law_script", u)]) ∧ ∀ base : Heap, (K w.params).In base → base.Ns mainGlobals mg → FnOk l.prog w (K w.params) mg base CX0 4 fa fd ["_law_script"] (spLaw (K w.params))) :
    PySem.W.WalkO q loose XP YP l.row.toRowW d [] (fun f vs => PySem.call f vs) :=
  L2.walk_of (n := 63) (k := 4) (x := "_law_script") (CX := fun _ => CX0) (sp := fun w => spLaw (K w.params)) hn (by decide) hdf ⟨rfl, by decide, by decide⟩ hY F (fun _ _ a ns hl _ hS => ⟨a, ns, rfl, hS, hl, fun _ => rfl⟩) fun _ _ _ _ _ z => z
end Law

open PySem PySem.W PyProof.Rows
set_option maxRecDepth 100000 in
set_option maxHeartbeats 0 in
theorem PySem.Challenge.cw_rungbounds_k57_errors_and_their_fields_holds : PySem.Challenge.rw_rungbounds_k57_errors_and_their_fields.Holds := by
  w_on; o_law; k_head; (case hw => w_witness2)
  k_fill
  refine Law.walk (l := PySem.Challenge.rw_rungbounds_k57_errors_and_their_fields) rfl rfl (fun w h Y => PySem.W.kIn_of Y) ?F
  case F =>
    intro w mg fa h KX G hmg
    refine' Law.all_mk KX G hmg (by rfl) ?aC ?lC ?cC ?kC ?aS ?lS ?cS ?kS ?aB ?lB ?cB ?kB ?aT ?lT ?cT ?kT ?aN ?lN ?cN ?kN ?aL ?lL ?cL ?kL ?opq ?nsup ?aLE ?csL ?tyL ?xhn ?xht ?n_len ?n_int ?n_isinstance ?n_bool ?n_range ?n_list ?n_str ?n_ValueError ?a0 ?x0 ?sa0 ?ga0 ?gg0 ?nb0 ?i0 ?t0 ?l0 ?co0 ?lk0 ?vk0x ?fe0 ?le0 ?mr0 ?up0 ?sv0 ?kc0 ?eb0 ?ty0 ?hd0 ?ha0 ?hm0 ?a1 ?x1 ?sa1 ?ga1 ?gg1 ?nb1 ?i1 ?t1 ?l1 ?co1 ?lk1 ?vk1x ?fe1 ?le1 ?mr1 ?up1 ?sv1 ?kc1 ?eb1 ?ty1 ?hd1 ?ha1 ?hm1 ?a2 ?x2 ?sa2 ?ga2 ?gg2 ?nb2 ?i2 ?t2 ?l2 ?co2 ?lk2 ?vk2x ?fe2 ?le2 ?mr2 ?up2 ?sv2 ?kc2 ?eb2 ?ty2 ?hd2 ?ha2 ?hm2 ?a3 ?x3 ?sa3 ?ga3 ?gg3 ?nb3 ?i3 ?t3 ?l3 ?co3 ?lk3 ?vk3x ?fe3 ?le3 ?mr3 ?up3 ?sv3 ?kc3 ?eb3 ?ty3 ?hd3 ?ha3 ?hm3 ?a4 ?x4 ?sa4 ?ga4 ?gg4 ?nb4 ?i4 ?t4 ?l4 ?co4 ?lk4 ?vk4x ?fe4 ?le4 ?mr4 ?up4 ?sv4 ?kc4 ?eb4 ?ty4 ?hd4 ?ha4 ?hm4 ?a5 ?x5 ?sa5 ?ga5 ?gg5 ?nb5 ?i5 ?t5 ?l5 ?co5 ?lk5 ?vk5x ?fe5 ?le5 ?mr5 ?up5 ?sv5 ?kc5 ?eb5 ?ty5 ?hd5 ?ha5 ?hm5 ?a6 ?x6 ?sa6 ?ga6 ?gg6 ?nb6 ?i6 ?t6 ?l6 ?co6 ?lk6 ?vk6x ?fe6 ?le6 ?mr6 ?up6 ?sv6 ?kc6 ?eb6 ?ty6 ?hd6 ?ha6 ?hm6 ?a7 ?x7 ?sa7 ?ga7 ?gg7 ?nb7 ?i7 ?t7 ?l7 ?co7 ?lk7 ?vk7x ?fe7 ?le7 ?mr7 ?up7 ?sv7 ?kc7 ?eb7 ?ty7 ?hd7 ?ha7 ?hm7 ?a8 ?x8 ?sa8 ?ga8 ?gg8 ?nb8 ?i8 ?t8 ?l8 ?co8 ?lk8 ?vk8x ?fe8 ?le8 ?mr8 ?up8 ?sv8 ?kc8 ?eb8 ?ty8 ?hd8 ?ha8 ?hm8 ?a9 ?x9 ?sa9 ?ga9 ?gg9 ?nb9 ?i9 ?t9 ?l9 ?co9 ?lk9 ?vk9x ?fe9 ?le9 ?mr9 ?up9 ?sv9 ?kc9 ?eb9 ?ty9 ?hd9 ?ha9 ?hm9 ?a10 ?x10 ?sa10 ?ga10 ?gg10 ?nb10 ?i10 ?t10 ?l10 ?co10 ?lk10 ?vk10x ?fe10 ?le10 ?mr10 ?up10 ?sv10 ?kc10 ?eb10 ?ty10 ?hd10 ?ha10 ?hm10 ?a11 ?x11 ?sa11 ?ga11 ?gg11 ?i11 ?t11 ?l11 ?co11 ?lk11 ?vk11x ?fe11 ?le11 ?mr11 ?up11 ?sv11 ?kc11 ?eb11 ?ty11 ?hd11 ?ha11 ?hm11 ?a12 ?x12 ?sa12 ?ga12 ?gg12 ?i12 ?t12 ?l12 ?co12 ?lk12 ?vk12x ?fe12 ?le12 ?mr12 ?up12 ?sv12 ?kc12 ?eb12 ?ty12 ?hd12 ?ha12 ?hm12 ?a13 ?x13 ?sa13 ?ga13 ?gg13 ?i13 ?t13 ?l13 ?co13 ?lk13 ?vk13x ?fe13 ?le13 ?mr13 ?up13 ?sv13 ?kc13 ?eb13 ?ty13 ?hd13 ?ha13 ?hm13 ?nod
    (case aC => k_is)
    (case lC => k_is)
    (case cC => k_is)
    (case kC => k_is)
    (case aS => k_is)
    (case lS => k_is)
    (case cS => k_is)
    (case kS => k_is)
    (case aB => k_is)
    (case lB => k_is)
    (case cB => k_is)
    (case kB => k_is)
    (case aT => k_is)
    (case lT => k_is)
    (case cT => k_is)
    (case kT => k_is)
    (case aN => k_is)
    (case lN => k_is)
    (case cN => k_is)
    (case kN => k_is)
    (case aL => k_is)
    (case lL => k_is)
    (case cL => k_is)
    (case kL => k_is)
    (case opq => k_is)
    (case nsup => k_is)
    (case aLE => k_is)
    (case csL => first | k_is | rfl | kernel_rfl)
    (case tyL => k_is)
    (case xhn => first | k_is | rfl)
    (case xht => first | k_is | rfl)
    (case n_len => k_is)
    (case n_int => k_is)
    (case n_isinstance => k_is)
    (case n_bool => k_is)
    (case n_range => k_is)
    (case n_list => k_is)
    (case n_str => k_is)
    (case n_ValueError => k_is)
    (case a0 => k_is)
    (case x0 => k_is)
    (case sa0 => k_is)
    (case ga0 => k_is)
    (case gg0 => k_is)
    (case nb0 => k_is)
    (case i0 => k_is)
    (case t0 => k_is)
    (case l0 => k_is)
    (case co0 => k_is)
    (case lk0 => k_is)
    (case vk0x => rfl)
    (case fe0 => decide +kernel)
    (case le0 => k_is)
    (case mr0 => k_is)
    (case up0 => first | ks_is | rfl)
    (case sv0 => k_is)
    (case kc0 => k_is)
    (case eb0 => k_is)
    (case ty0 => k_is)
    (case hd0 => k_is)
    (case ha0 => k_is)
    (case hm0 => k_is)
    (case a1 => k_is)
    (case x1 => k_is)
    (case sa1 => k_is)
    (case ga1 => k_is)
    (case gg1 => k_is)
    (case nb1 => k_is)
    (case i1 => k_is)
    (case t1 => k_is)
    (case l1 => k_is)
    (case co1 => k_is)
    (case lk1 => k_is)
    (case vk1x => rfl)
    (case fe1 => decide +kernel)
    (case le1 => k_is)
    (case mr1 => k_is)
    (case up1 => first | ks_is | rfl)
    (case sv1 => k_is)
    (case kc1 => k_is)
    (case eb1 => k_is)
    (case ty1 => k_is)
    (case hd1 => k_is)
    (case ha1 => k_is)
    (case hm1 => k_is)
    (case a2 => k_is)
    (case x2 => k_is)
    (case sa2 => k_is)
    (case ga2 => k_is)
    (case gg2 => k_is)
    (case nb2 => k_is)
    (case i2 => k_is)
    (case t2 => k_is)
    (case l2 => k_is)
    (case co2 => k_is)
    (case lk2 => k_is)
    (case vk2x => rfl)
    (case fe2 => decide +kernel)
    (case le2 => k_is)
    (case mr2 => k_is)
    (case up2 => first | ks_is | rfl)
    (case sv2 => k_is)
    (case kc2 => k_is)
    (case eb2 => k_is)
    (case ty2 => k_is)
    (case hd2 => k_is)
    (case ha2 => k_is)
    (case hm2 => k_is)
    (case a3 => k_is)
    (case x3 => k_is)
    (case sa3 => k_is)
    (case ga3 => k_is)
    (case gg3 => k_is)
    (case nb3 => k_is)
    (case i3 => k_is)
    (case t3 => k_is)
    (case l3 => k_is)
    (case co3 => k_is)
    (case lk3 => k_is)
    (case vk3x => rfl)
    (case fe3 => decide +kernel)
    (case le3 => k_is)
    (case mr3 => k_is)
    (case up3 => first | ks_is | rfl)
    (case sv3 => k_is)
    (case kc3 => k_is)
    (case eb3 => k_is)
    (case ty3 => k_is)
    (case hd3 => k_is)
    (case ha3 => k_is)
    (case hm3 => k_is)
    (case a4 => k_is)
    (case x4 => k_is)
    (case sa4 => k_is)
    (case ga4 => k_is)
    (case gg4 => k_is)
    (case nb4 => k_is)
    (case i4 => k_is)
    (case t4 => k_is)
    (case l4 => k_is)
    (case co4 => k_is)
    (case lk4 => k_is)
    (case vk4x => rfl)
    (case fe4 => decide +kernel)
    (case le4 => k_is)
    (case mr4 => k_is)
    (case up4 => first | ks_is | rfl)
    (case sv4 => k_is)
    (case kc4 => k_is)
    (case eb4 => k_is)
    (case ty4 => k_is)
    (case hd4 => k_is)
    (case ha4 => k_is)
    (case hm4 => k_is)
    (case a5 => k_is)
    (case x5 => k_is)
    (case sa5 => k_is)
    (case ga5 => k_is)
    (case gg5 => k_is)
    (case nb5 => k_is)
    (case i5 => k_is)
    (case t5 => k_is)
    (case l5 => k_is)
    (case co5 => k_is)
    (case lk5 => k_is)
    (case vk5x => rfl)
    (case fe5 => decide +kernel)
    (case le5 => k_is)
    (case mr5 => k_is)
    (case up5 => first | ks_is | rfl)
    (case sv5 => k_is)
    (case kc5 => k_is)
    (case eb5 => k_is)
    (case ty5 => k_is)
    (case hd5 => k_is)
    (case ha5 => k_is)
    (case hm5 => k_is)
    (case a6 => k_is)
    (case x6 => k_is)
    (case sa6 => k_is)
    (case ga6 => k_is)
    (case gg6 => k_is)
    (case nb6 => k_is)
    (case i6 => k_is)
    (case t6 => k_is)
    (case l6 => k_is)
    (case co6 => k_is)
    (case lk6 => k_is)
    (case vk6x => rfl)
    (case fe6 => decide +kernel)
    (case le6 => k_is)
    (case mr6 => k_is)
    (case up6 => first | ks_is | rfl)
    (case sv6 => k_is)
    (case kc6 => k_is)
    (case eb6 => k_is)
    (case ty6 => k_is)
    (case hd6 => k_is)
    (case ha6 => k_is)
    (case hm6 => k_is)
    (case a7 => k_is)
    (case x7 => k_is)
    (case sa7 => k_is)
    (case ga7 => k_is)
    (case gg7 => k_is)
    (case nb7 => k_is)
    (case i7 => k_is)
    (case t7 => k_is)
    (case l7 => k_is)
    (case co7 => k_is)
    (case lk7 => k_is)
    (case vk7x => rfl)
    (case fe7 => decide +kernel)
    (case le7 => k_is)
    (case mr7 => k_is)
    (case up7 => first | ks_is | rfl)
    (case sv7 => k_is)
    (case kc7 => k_is)
    (case eb7 => k_is)
    (case ty7 => k_is)
    (case hd7 => k_is)
    (case ha7 => k_is)
    (case hm7 => k_is)
    (case a8 => k_is)
    (case x8 => k_is)
    (case sa8 => k_is)
    (case ga8 => k_is)
    (case gg8 => k_is)
    (case nb8 => k_is)
    (case i8 => k_is)
    (case t8 => k_is)
    (case l8 => k_is)
    (case co8 => k_is)
    (case lk8 => k_is)
    (case vk8x => rfl)
    (case fe8 => decide +kernel)
    (case le8 => k_is)
    (case mr8 => k_is)
    (case up8 => first | ks_is | rfl)
    (case sv8 => k_is)
    (case kc8 => k_is)
    (case eb8 => k_is)
    (case ty8 => k_is)
    (case hd8 => k_is)
    (case ha8 => k_is)
    (case hm8 => k_is)
    (case a9 => k_is)
    (case x9 => k_is)
    (case sa9 => k_is)
    (case ga9 => k_is)
    (case gg9 => k_is)
    (case nb9 => k_is)
    (case i9 => k_is)
    (case t9 => k_is)
    (case l9 => k_is)
    (case co9 => k_is)
    (case lk9 => k_is)
    (case vk9x => rfl)
    (case fe9 => decide +kernel)
    (case le9 => k_is)
    (case mr9 => k_is)
    (case up9 => first | ks_is | rfl)
    (case sv9 => k_is)
    (case kc9 => k_is)
    (case eb9 => k_is)
    (case ty9 => k_is)
    (case hd9 => k_is)
    (case ha9 => k_is)
    (case hm9 => k_is)
    (case a10 => k_is)
    (case x10 => k_is)
    (case sa10 => k_is)
    (case ga10 => k_is)
    (case gg10 => k_is)
    (case nb10 => k_is)
    (case i10 => k_is)
    (case t10 => k_is)
    (case l10 => k_is)
    (case co10 => k_is)
    (case lk10 => k_is)
    (case vk10x => rfl)
    (case fe10 => decide +kernel)
    (case le10 => k_is)
    (case mr10 => k_is)
    (case up10 => first | ks_is | rfl)
    (case sv10 => k_is)
    (case kc10 => k_is)
    (case eb10 => k_is)
    (case ty10 => k_is)
    (case hd10 => k_is)
    (case ha10 => k_is)
    (case hm10 => k_is)
    (case a11 => k_is)
    (case x11 => k_is)
    (case sa11 => k_is)
    (case ga11 => k_is)
    (case gg11 => k_is)
    (case i11 => k_is)
    (case t11 => k_is)
    (case l11 => k_is)
    (case co11 => k_is)
    (case lk11 => k_is)
    (case vk11x => rfl)
    (case fe11 => decide +kernel)
    (case le11 => k_is)
    (case mr11 => k_is)
    (case up11 => first | ks_is | rfl)
    (case sv11 => k_is)
    (case kc11 => k_is)
    (case eb11 => k_is)
    (case ty11 => k_is)
    (case hd11 => k_is)
    (case ha11 => k_is)
    (case hm11 => k_is)
    (case a12 => k_is)
    (case x12 => k_is)
    (case sa12 => k_is)
    (case ga12 => k_is)
    (case gg12 => k_is)
    (case i12 => k_is)
    (case t12 => k_is)
    (case l12 => k_is)
    (case co12 => k_is)
    (case lk12 => k_is)
    (case vk12x => rfl)
    (case fe12 => decide +kernel)
    (case le12 => k_is)
    (case mr12 => k_is)
    (case up12 => first | ks_is | rfl)
    (case sv12 => k_is)
    (case kc12 => k_is)
    (case eb12 => k_is)
    (case ty12 => k_is)
    (case hd12 => k_is)
    (case ha12 => k_is)
    (case hm12 => k_is)
    (case a13 => k_is)
    (case x13 => k_is)
    (case sa13 => k_is)
    (case ga13 => k_is)
    (case gg13 => k_is)
    (case i13 => k_is)
    (case t13 => k_is)
    (case l13 => k_is)
    (case co13 => k_is)
    (case lk13 => k_is)
    (case vk13x => rfl)
    (case fe13 => decide +kernel)
    (case le13 => k_is)
    (case mr13 => k_is)
    (case up13 => first | ks_is | rfl)
    (case sv13 => k_is)
    (case kc13 => k_is)
    (case eb13 => k_is)
    (case ty13 => k_is)
    (case hd13 => k_is)
    (case ha13 => k_is)
    (case hm13 => k_is)
    (case nod => decide +kernel)
