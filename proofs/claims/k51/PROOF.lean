import PyProof.Rows.All
import Wide.All
import OpenK.AllK
import Wide.FinOn
import HandS.ForMost
import HandS.Wide
import HandS.ExcInit
import HandS.FStr
import HandS.Nested
import HandS.TryOnly
import HandS.ExcField
import HandS.WordsExc
import HandS.IsInst
import HandS.Codes
import HandS.Gcd
import HandS.Star
import HandS.ClsMeth
import KE.KTupSum
import HandS.Defaults
import HandS.ExcIs
import KE.KExcSuper
import KE.KMathG
import HandS.FStrTup
import HandS.OwnEq
import HandS.TupLe
import HandS.DeepEq
import HandS.MakeKw
import HandS.Walk
import HandS.AnyAll
import HandS.WordsDict
import HandS.More
import HandS.Deep
import HandS.Style
import HandS.Flow
import HandS.CallSlots
import KE.GoesRaise
import PyProof.ReprReads
import HandS.MethStar
import HandS.SortInts
import HandS.DictComp
import KE.KSortedM
import HandS.DictTup
import HandS.Zip
import HandS.Conv
import HandS.TupMul
import HandS.TupAny
import KE.GoesMore
import KE.KCallOwn
import PyProof.Draws
import HandS.MakeKwOnly
import PySem.Challenge.RW_rungbounds_k51_shapes_checked
set_option Elab.async false
set_option linter.all false
set_option maxRecDepth 100000
set_option maxHeartbeats 4000000
/-! Errors whose making calls super().__init__ on a text, then keeps a field. -/
namespace Sup
open PySem PySem.Spec PyProof.Rows L2 NdefX

abbrev mwrap (x : Addr) : Obj := PySem.W.kxs_mw "ValueError.__init__" x

/-- the wrapper of ValueError.__init__ bound to a, called -/
theorem call_wrap {prog : Program} {w : World} {A : Around} {E : Value → Shared → Prop} {h : Heap} {g : Array GenState} {d : Drawn} {t : Nat} {os : OsState}
    {nm q : Str} {C N : Addr} {bs bm : List Value} {hd : Bool} {sn : List Str} {sub : List Value} {ab : Bool} {col : Option Bool} {dd : Option Addr} {k0 k1 k2 k3 k5 : Option Value}
    {u a t0 : Addr} {us : List Value} {Q : Value → Shared → Prop}
    (hC : h.get? C = some (excClassObj nm q C N bs bm hd sn sub ab col dd k0 k1 k2 k3 k5 "ValueError.__new__"))
    (ha : h.get? a = some (PySem.HandSPX.excO C t0)) (hu : h.get? u = some (mwrap a)) (hl : us.length ≤ sizeLine)
    (hq : ∀ h' t1, (∀ b o, b ≠ a → h.get? b = some o → h'.get? b = some o) → h'.get? a = some (PySem.HandSPX.excO C t1) → Q .none ⟨h', g, d, t, os⟩) :
    wpAny (model prog w) A (call (.ref u) us) Q E ⟨h, g, d, t, os⟩ := by
  have FB := F.excBase_ValueError
  refine wpAny_call (codeAny_of_tree ?_)
  show wpAny _ A.in1 (callAny (.ref u) ⟨us, []⟩) _ _ _
  unfold callAny
  refine wpAny_bind (wpAny_load hu ?_)
  have k1' : (Value.type "method-wrapper" == Value.type "method" || Value.type "method-wrapper" == Value.type "builtin_function_or_method" || Value.type "method-wrapper" == Value.type "method-wrapper") = true := by decide
  simp only [mwrap, PySem.W.kxs_mw, k1', if_true]
  refine PySem.W.KFB.if_so (by decide) ?_
  refine wpAny_bind (PySem.W.check_bound_init FB.toExcCallFacts hC ha rfl ?_)
  refine wpAny_bind (wpAny_pure (wpAny_pure ?_))
  refine ⟨plainId_quiet FB.init.plain _, codeAny_builtin FB.initEntry ?_⟩
  exact PySem.W.exc_init_tree (cls := .ref C) (t0 := t0) (dv := none) (c2 := .none) (c3 := .none) (b4 := .bool false) ha hl fun h' k e _ => hq h' _ k e

/-- what the written part says of an own error's class at C and its __init__ at f -/
structure ErrTxt (P : Program) (K : PySem.W.Frag) (mg : Str → Option Value) (C f cda cc : Addr) (qual : Str) (st : Stmt) : Prop where
  oex : OexC K C
  iC : PySem.W.findIn K (.ref C) "__init__" = some (some (.ref f))
  tI : PySem.W.typeIn K (.ref f) = some (.type "function")
  fn : ∃ (oc : Value) (od an : Option Addr) (kV doc pm ct : Value) (osl : Array (Option Value)),
    K.lookup f = some ⟨oc, od, .func (PySem.W.fnX "__init__" qual (defArgs st) (defBody st) (defScope st) [("__class__", cc)] .none kV doc pm an (.ref cda) ct), osl⟩
  code : PySem.W.codeIn K (.ref cda) qual = true
  file : ∃ (o : Obj) (vs : Array Value) (fl : Str) (tf : Tok), K.lookup cda = some o ∧ o.data = .fields vs ∧ vs[2]? = some (.str fl tf) ∧ ((P.main.file : Str) == fl) = true
  cell : ∃ (o : Obj), K.lookup cc = some o ∧ o.data = .cell (some (.ref C))
  self : PySem.W.mroIn K C (.ref C) = some true
  opaque_ : PySem.W.nsIn K cStatics "thirdparty.any" = some none
  up : PySem.W.ks_superIn K C C "__init__" = some (some (.builtin "ValueError.__init__"))
  isVE : PySem.W.subIn K (.ref C) (.type "ValueError") = some true
  top : (P.main.scope.names.lookup ("super" : Str)).isSome = false
  noSup : mg "super" = none

section
variable {X : Cx} {pins : List (Addr × Obj)} {σ : L2.St} {H : Hp} {s : Shared} {a C f cda cc : Addr} {qual : Str} {st : Stmt} {e : Expr} {te : TE} {body : List Stmt} {p0 p1 p2 p3 : Pos} {Q : Hp → Prop} {scope : Scope} {ar : Arg}
theorem super_init (T : ErrTxt X.prog X.K X.mg C f cda cc qual st) (I : Inv X pins σ H s)
    (henv : X.env = PySem.W.envX qual scope X.env.locals f (.ref cda) [("__class__", cc)])
    (hks : scope.names.lookup ("super" : Str) = some .globalImplicit) (hkc : scope.names.lookup ("__class__" : Str) = some .free)
    (hks' : scope.names.lookup ar.arg = some .local)
    (har : ((defArgs st).posonlyargs ++ (defArgs st).args).head? = some ar)
    (h0 : X.N[0]? = some ar.arg) (hs0 : σ[0]? = some (some (V.ref a))) (ha : H a = some (exo a C none))
    (he : PE X e te) (hq : te σ H fun x H1 => [x].length ≤ 1 ∧ H1 a = some (exo a C none) ∧ Q H1) {pl : Sem Bool}
    (hform : eval (.Call (.Attribute (.Call (.Name "super" p0) [] [] p1) "__init__" p2) [e] [] p3) X.env = (do
      let ov ← attributeBase (.Call (.Name "super" p0) [] [] p1) "__init__" X.env (eval (.Call (.Name "super" p0) [] [] p1) X.env)
      standAt p2.atName
      let (g, first) ← holding [ov] (getMethod ov "__init__" pl)
      callWith p3 g first (backTo p3 (starEach [e] X.env)) []) := by rfl)
    (hse : starEach [e] X.env = (false, eval e X.env) :: starEach [] X.env := by rfl) :
    _root_.PySem.wpAt (model X.prog X.w) X.A (.func body X.env) (eval (.Call (.Attribute (.Call (.Name "super" p0) [] [] p1) "__init__" p2) [e] [] p3) X.env)
      (fun _ s' => ∃ H', Inv X pins σ H' s' ∧ Q H') X.xe s := by
  have kS : X.env.kindOf "super" = some .globalImplicit := by rw [henv]; exact hks
  have kC : X.env.kindOf "__class__" = some .free := by rw [henv]; exact hkc
  have kA : X.env.kindOf ar.arg = some .local := by rw [henv]; exact hks'
  have cL : X.env.cells.lookup ("__class__" : Str) = some cc := by rw [henv]; rfl
  have fL : X.env.func = some f := by rw [henv]
  have dL : X.env.code = .ref cda := by rw [henv]
  obtain ⟨nm, q, N, bs, bm, sn, sub, ab, col, dd, k0, k1, k2, k3, k5, hC, hbm⟩ := T.oex.cls
  have hcl : PySem.W.clsIn X.K C = some { name := nm, bases := bs, mro := .ref C :: bm, ns := N, qualname := q, hasDict := true, slotNames := sn, subclasses := sub, abstract := ab, collection := col, hasDel := false } := by
    unfold PySem.W.clsIn; rw [hC] <;> rfl
  obtain ⟨oc, od, an, kV, doc, pm, ct, osl, lf⟩ := T.fn
  obtain ⟨oF, vs, fl, tf, lc, hvf, hv2, hfl⟩ := T.file
  obtain ⟨oc2, lcell, dcell⟩ := T.cell
  obtain ⟨t1, hga⟩ := exo_at I.hok ha
  refine ks_wpAt_MethodCall (o := .Call (.Name "super" p0) [] [] p1) (name := "__init__") (apos := p2) (pos := p3) (args := [e]) (env := X.env) ?_ hform
  refine ks_wpAt_super_base (env := X.env) (cc := cda) (ar := ar) kS kC (by decide) fL (I.kIn _ _ lf) rfl har dL (I.kIn _ _ lc) hvf hv2 hfl T.top ?_
  -- the name super
  obtain ⟨mb, hb1, hb2⟩ := I.mod.blt
  refine PySem.W.ks_loadName_global I.ok.kind kS (Calls.loadGlobal_builtin (v := .type "super") (by rw [I.ok.glob]; exact I.mod.glob.keeps I.bk) T.noSup
    (by rw [I.ok.blt]; exact hb1.keeps I.bk) ((hb2 _ (by decide)).trans (by decide +kernel)) ⟨rfl, ?_⟩)
  -- the cell __class__
  refine wpAny_loadName_free I.ok.kind kC cL (v := .ref C) ⟨_, I.kIn _ _ lcell, dcell⟩ ?_
  -- self
  obtain ⟨m, hn, hlm⟩ := I.loc
  obtain ⟨u, ru, hlook⟩ := hlm 0 ar.arg (V.ref a) h0 hs0 (.inl (by rw [henv]; exact hks'))
  obtain rfl : u = Value.ref a := ru
  have hma : m ar.arg = some (Value.ref a) := by
    rcases hlook with ⟨_, z⟩ | ⟨z, _⟩
    · exact z
    · rw [kA] at z
      rcases z with z | z <;> cases z
  refine wpAny_loadName_local I.ok.kind kA hn hma ?_
  have gC := I.kIn _ _ hC
  refine ks_wpAny_isType_cls gC rfl ⟨rfl, ?_⟩
  obtain ⟨hp, g, d, t, os⟩ := s
  refine ks_wpAny_call_super gC rfl hga rfl (fun c z => by cases z) (PySem.W.looks_mroIn I.kIn T.self) fun h1 e1 k1 => ?_
  have J1 : Inv X pins σ H ⟨h1, g, d, t, os⟩ := I.kept (t' := t) k1
  have I1 : PySem.W.InstAt h1 a (PySem.HandSPX.excO C t1) C none := ⟨k1 _ _ hga, rfl, rfl, trivial⟩
  have hup := T.up
  unfold PySem.W.ks_superIn at hup
  rw [hcl] at hup
  refine PySem.W.kxs_getMethod PySem.W.kxs_ValueError e1 (PySem.W.looks_opaque J1.kIn T.opaque_)
    (fun A' Q' E' s' k q => wpAny_bind ((PySem.W.looks_clsIn J1.kIn hcl) A' _ E' s' k (wpAny_pure q))) rfl J1.kIn hup
    (I1.type.andThen (PySem.W.looks_subIn J1.kIn T.isVE)) (PySem.W.ks_ne J1.kIn I1 hcl) (by decide) ?_
  have gu : (h1.push (mwrap a)).get? h1.objs.size = some (mwrap a) := Heap.get?_push_at rfl rfl
  have J2 : Inv X pins σ H ⟨h1.push (mwrap a), g, d, t + 1, os⟩ := J1.kept (t' := t + 1) fun b o z => Heap.get?_push_of_some _ z
  have J3 : Inv X ((h1.objs.size, mwrap a) :: pins) σ H ⟨h1.push (mwrap a), g, d, t + 1, os⟩ := J2.pins_of fun p hp => by
    rcases List.mem_cons.mp hp with rfl | hp
    · refine ⟨gu, J1.hok.fresh (Nat.le_refl _), fun z => ?_, J1.nofs (Nat.le_refl _), fun v z => by cases z⟩
      have z' : h1.objs.size = X.env.locals := z
      have y := J1.lt
      rw [← z'] at y
      exact absurd y (Nat.lt_irrefl _)
    · exact J2.pin p (List.mem_append_right _ hp)
  show wpAny _ _ (callWith p3 (.ref h1.objs.size) [] (backTo p3 (starEach [e] X.env)) []) _ _ _
  have hq' : tCons te tNil σ H fun xs H1 => xs.length ≤ 1 ∧ H1 a = some (exo a C none) ∧ Q H1 := hq
  rw [hse]
  refine PySem.W.kxs_callWith (i := "ValueError.__init__") (x := a) (by rfl) ?_
  refine Calls.evalArgs_plain ?_
  have pr := (pa_cons he pa_nil hse).run p3 _ _ σ H _ J3 hq'
  rw [hse] at pr
  refine thn pr fun us s2 hh => ?_
  obtain ⟨xs, H2, I2, r2, hx1, ha2, hQ2⟩ := hh
  have gw := (I2.pin (h1.objs.size, mwrap a) (List.mem_append_right _ List.mem_cons_self)).1
  refine ⟨gw, ?_⟩
  obtain ⟨t2, hga2⟩ := exo_at I2.hok ha2
  obtain ⟨hp2, g2, d2, tk2, os2⟩ := s2
  have hul : us.length ≤ sizeLine := by
    rw [← r2.length, sizeLine_eq]
    omega
  refine call_wrap (us := us) (I2.kIn _ _ hC) hga2 gw hul fun h3 t3 k3' e3 => ?_
  have J4 := I2.write (t' := tk2) (x := a) (e := a) (o := exo a C none) (by rw [ha2]; exact True.intro) (.inl rfl) k3' ⟨_, e3⟩ (exo_ok e3)
  have eu : upd H2 a (exo a C none) = H2 := by
    funext b
    by_cases hb : b = a
    · rw [hb, upd_same, ha2]
    · exact upd_ne hb
  rw [eu] at J4
  exact ⟨H2, J4.pins_of fun p hp => J4.pin p (List.mem_append_right _ (List.mem_cons_of_mem _ hp)), hQ2⟩
end

/-! ### the making of an own error, as a promise -/
/-- at a an exception of the class at C is being made; the argument v goes to the field fl -/
def spErr (C : Addr) (fl : Str) (ok : V → Prop) : Sp := fun vs H Q _ => ∃ (a : Addr) (v : V), vs = [.ref a, v] ∧ H a = some (exo a C none) ∧ ok v ∧
  ∀ dx, H dx = none → dx ≠ a → Q .non (upd (upd H dx (exd dx [(fl, v)])) a (exo a C (some dx)))

def okInt : V → Prop := fun v => ∃ i : Int, v = .int i ∧ i.natAbs.log2 < 1920
def okTxt : V → Prop := fun v => ∃ y : Str, v = .str y ∧ (reprText y).length ≤ 10000

section
variable {P : Program} {w : World} {K : PySem.W.Frag} {mg : Str → Option Value} {base : Heap} {C f cda cc : Addr} {qual pn : Str} {st : Stmt} {N : List Str}

abbrev supNF (qual : Str) (st : Stmt) (cda cc : Addr) : NF := ⟨"__init__", qual, defArgs st, defBody st, defScope st, [("__class__", cc)], cda⟩

/-- a def that closes over __class__ alone, entered: its body runs in the frame of NdefX -/
theorem sup_fn {CX : CXT} {sp : Sp} {k : Nat} {ps : List Str} (T : ErrTxt P K mg C f cda cc qual st) (S : NScope N ps ["__class__"] (defScope st))
    (len : ∀ vs H Q E, sp vs H Q E → vs.length = ps.length)
    (hb : ∀ (oc : Value) (od an : Option Addr) (kV doc pm ct : Value) (us : List Value), us.length = ps.length →
      bindArgs (PySem.W.fnX "__init__" qual (defArgs st) (defBody st) (defScope st) [("__class__", cc)] .none kV doc pm an (.ref cda) ct) ⟨us, []⟩ = pure (ps.zip us))
    (hbody : ∀ (A : Around) (outer : List Env) (s : Shared) (H : Hp) (vs : List V) (Q : VK) (E : XK), sp vs H Q E → Room k (ncx CX P w K mg base N (supNF qual st cda cc) f A outer s H E).A →
      ∀ s1, L2.Inv (ncx CX P w K mg base N (supNF qual st cda cc) f A outer s H E) [] (startF N vs [none]) H s1 →
        _root_.PySem.wpAt (model P w) (ncx CX P w K mg base N (supNF qual st cda cc) f A outer s H E).A (.func (defBody st) (ncx CX P w K mg base N (supNF qual st cda cc) f A outer s H E).env)
          (execs (defBody st) (ncx CX P w K mg base N (supNF qual st cda cc) f A outer s H E).env)
          (SP (ncx CX P w K mg base N (supNF qual st cda cc) f A outer s H E) [] { nx := fun _ H' => Q .non H', rt := Q })
          (ncx CX P w K mg base N (supNF qual st cda cc) f A outer s H E).xe s1) :
    ∃ fd, FnOk P w K mg base CX (k + 1) f fd ps sp ∧ Binds K fd ps [] := by
  obtain ⟨oc, od, an, kV, doc, pm, ct, osl, lf⟩ := T.fn
  obtain ⟨oc2, lcell, dcell⟩ := T.cell
  refine ⟨_, ⟨len, fun A outer s H args us vs Q E hr e0 hbd r hsp => ?_⟩, Binds.all (hb oc od an kV doc pm ct)⟩
  have hl := len _ _ _ _ hsp
  have KX : K.In s.heap := e0.mod.kin.keeps fun b o e => (e0.bs b o e).1
  have lim : s.heap.NoLimit := e0.mod.nolimit.keeps fun b o e => (e0.bs b o e).1
  have hH : H cc = none := (e0.bs cc oc2 (e0.mod.kin _ _ lcell)).2
  have CA : CellsAt [("__class__", cc)] ["__class__"] [none] s.heap H := {
    len := rfl
    all := fun y c h => by
      have h' : (if y = ("__class__" : Str) then some cc else none) = some c := by
        by_cases e : y = ("__class__" : Str)
        · subst e; exact h
        · have q : (y == ("__class__" : Str)) = false := by simpa using e
          have z : List.lookup y [(("__class__" : Str), cc)] = none := by simp [List.lookup, q]
          rw [z] at h; cases h
      split at h'
      · cases h'
        exact ⟨hH, some (.ref C), oc2, KX _ _ lcell, dcell⟩
      · cases h'
    inj := fun x y c h1 h2 => by
      have key : ∀ z : Str, List.lookup z [(("__class__" : Str), cc)] = some c → z = "__class__" := fun z hz => by
        by_cases e : z = ("__class__" : Str)
        · exact e
        · have q : (z == ("__class__" : Str)) = false := by simpa using e
          have w : List.lookup z [(("__class__" : Str), cc)] = none := by simp [List.lookup, q]
          rw [w] at hz; cases hz
      exact (key x h1).trans (key y h2).symm
    has := fun i y h => by
      match i, h with
      | 0, h =>
        have e : ("__class__" : Str) = y := Option.some.inj h
        subst e
        exact ⟨cc, by simp [List.lookup], fun v z => by cases z⟩
      | i + 1, h => cases h }
  refine ks_codeAny_call_defAt (binds := ps.zip us) hr.depth (KX _ _ lf) rfl lim (PySem.W.codeRec_of KX T.code) rfl hbd S.nocell (fun ⟨n, _⟩ hy => S.par n (List.of_mem_zip hy).1) (fun h1 hns kp => ?_) S.co S.gen S.kind
  have I : L2.Inv (ncx CX P w K mg base N (supNF qual st cda cc) f A outer s H E) [] (startF N vs [none]) H { s with heap := h1, toks := s.toks + (ps.zip us).length } :=
    inv_startN S hr.hd e0 hl r CA hns kp
  refine _root_.PySem.wpAt_mono (hbody A outer s H vs Q E hsp (hr.deeper _) _ I) (fun fl s' hs => ?_) fun e s' hs => hs
  cases fl with
  | ret u =>
    obtain ⟨v, σ', H', J, rv, q⟩ := hs
    exact ⟨v, H', J.os, J.bare, J.base, J.hok, rv, q⟩
  | next =>
    obtain ⟨σ', H', J, q⟩ := hs
    exact ⟨V.non, H', J.os, J.bare, J.base, J.hok, rfl, q⟩
  | brk =>
    obtain ⟨_, _, _, q⟩ := hs
    exact False.elim q
  | cont =>
    obtain ⟨_, _, _, q⟩ := hs
    exact False.elim q
end

section
variable {P : Program} {w : World} {K : PySem.W.Frag} {mg : Str → Option Value} {base : Heap} {C f cda cc : Addr} {qual pn : Str} {st : Stmt} {N : List Str}

/-- the body: super().__init__(e), then one statement more -/
theorem two_run {X : Cx} {σ : L2.St} {H : Hp} {s : Shared} {a : Addr} {e : Expr} {te : TE} {t2 : TS} {st2 : Stmt} {body : List Stmt} {p0 p1 p2 p3 p4 : Pos} {scope : Scope} {ar : Arg} {D : Ends}
    (T : ErrTxt X.prog X.K X.mg C f cda cc qual st) (I : L2.Inv X [] σ H s)
    (henv : X.env = PySem.W.envX qual scope X.env.locals f (.ref cda) [("__class__", cc)])
    (hks : scope.names.lookup ("super" : Str) = some .globalImplicit) (hkc : scope.names.lookup ("__class__" : Str) = some .free)
    (hka : scope.names.lookup ar.arg = some .local)
    (har : ((defArgs st).posonlyargs ++ (defArgs st).args).head? = some ar)
    (h0 : X.N[0]? = some ar.arg) (hs0 : σ[0]? = some (some (V.ref a))) (ha : H a = some (exo a C none))
    (he : PE X e te) (h2 : PS X st2 t2) (hq : te σ H fun x H1 => [x].length ≤ 1 ∧ H1 a = some (exo a C none) ∧ t2 D σ H1) {pl : Sem Bool}
    (hform : eval (.Call (.Attribute (.Call (.Name "super" p0) [] [] p1) "__init__" p2) [e] [] p3) X.env = (do
      let ov ← attributeBase (.Call (.Name "super" p0) [] [] p1) "__init__" X.env (eval (.Call (.Name "super" p0) [] [] p1) X.env)
      standAt p2.atName
      let (g, first) ← holding [ov] (getMethod ov "__init__" pl)
      callWith p3 g first (backTo p3 (starEach [e] X.env)) []) := by rfl)
    (hse : starEach [e] X.env = (false, eval e X.env) :: starEach [] X.env := by rfl) (hi : interactive X.env = false := by rfl) :
    _root_.PySem.wpAt (model X.prog X.w) X.A (.func body X.env)
      (execs [.Expr (.Call (.Attribute (.Call (.Name "super" p0) [] [] p1) "__init__" p2) [e] [] p3) p4, st2] X.env) (SP X [] D) X.xe s := by
  refine ks_wpAt_execs_cons (ks_wpAt_Expr_any ?_ hi)
  refine _root_.PySem.wpAt_mono (super_init (Q := fun H1 => t2 D σ H1) T I henv hks hkc hka har h0 hs0 ha he hq hform hse) (fun v s' hh => ?_) fun _ _ z => z
  obtain ⟨H1, I1, q⟩ := hh
  exact _root_.PySem.wpAt_of_wpAny ((pss_one h2).run [] s' σ H1 D I1 q)

theorem form_of (env : Env) {p0 p1 p2 p3 q4 : Pos} {ps : List Expr} (hln : (p2.endLine == p3.line) = true) : eval (.Call (.Attribute (.Call (.Name "super" p0) [] [] p1) "__init__" p2) [.JoinedStr ps q4] [] p3) env = (do
      let ov ← attributeBase (.Call (.Name "super" p0) [] [] p1) "__init__" env (eval (.Call (.Name "super" p0) [] [] p1) env)
      standAt p2.atName
      let (g, first) ← holding [ov] (getMethod ov "__init__" (do return (← importBound (.Call (.Name "super" p0) [] [] p1) env).getD true))
      callWith p3 g first (backTo p3 (starEach [.JoinedStr ps q4] env)) []) := by
  have hp : methodCallPos true (.Call (.Name "super" p0) [] [] p1) env p2 p3 = pure p3 := by
    unfold methodCallPos
    rw [hln]
    rfl
  show (do
    let ov ← attributeBase (.Call (.Name "super" p0) [] [] p1) "__init__" env (eval (.Call (.Name "super" p0) [] [] p1) env)
    standAt p2.atName
    let (g, first) ← holding [ov] (getMethod ov "__init__" (do return (← importBound (.Call (.Name "super" p0) [] [] p1) env).getD true))
    let cp ← methodCallPos true (.Call (.Name "super" p0) [] [] p1) env p2 p3
    callWith cp g first (backTo p3 (starEach [.JoinedStr ps q4] env)) []) = _
  rw [hp]
  rfl
theorem lit_small {lit : Str} (hl : lit.length ≤ 1000) : (Str.empty ++ lit).length ≤ 1000 := by
  rw [Str.length_append]
  exact Nat.le_trans (Nat.le_of_eq (Nat.zero_add _)) hl
theorem err_int {lit : Str} {j : Nat} {q1 q2 q3 q4 p0 p1 p2 p3 p4 r1 r2 r3 r4 : Pos} {ar : Arg} (T : ErrTxt P K mg C f cda cc qual st)
    (hbd : defBody st = [.Expr (.Call (.Attribute (.Call (.Name "super" p0) [] [] p1) "__init__" p2) [.JoinedStr [.Constant (.str lit) j q1, .FormattedValue (.Name pn q2) (-1) none q3] q4] [] p3) p4,
      .Assign [.Attribute (.Name "self" r1) pn r2] (.Name pn r3) r4]) (hln : (p2.endLine == p3.line) = true)
    (S : NScope ["self", pn, "__class__"] ["self", pn] ["__class__"] (defScope st))
    (hb : ∀ (oc : Value) (od an : Option Addr) (kV doc pm ct : Value) (us : List Value), us.length = 2 →
      bindArgs (PySem.W.fnX "__init__" qual (defArgs st) (defBody st) (defScope st) [("__class__", cc)] .none kV doc pm an (.ref cda) ct) ⟨us, []⟩ = pure ((["self", pn] : List Str).zip us))
    (hks : (defScope st).names.lookup ("super" : Str) = some .globalImplicit)
    (har : ((defArgs st).posonlyargs ++ (defArgs st).args).head? = some ar) (har2 : ar.arg = "self")
    (hd1 : (pn == ("__debug__" : Str)) = false) (hd2 : (pn == ("__classdict__" : Str)) = false)
    (hlit : lit.length ≤ 1000) (hno : PySem.W.findIn K (.ref C) pn = some none) :
    ∃ fd, FnOk P w K mg base CX0 2 f fd ["self", pn] (spErr C pn okInt) ∧ Binds K fd ["self", pn] [] := by
  refine sup_fn T S (fun vs H Q E h => ?_) hb fun A outer s H vs Q E hsp hroom s1 I => ?_
  · obtain ⟨a, v, rfl, _⟩ := h
    rfl
  · obtain ⟨a, v, rfl, ha, ⟨i, rfl, hi⟩, hQ⟩ := hsp
    have vN : Vis (ncx CX0 P w K mg base ["self", pn, "__class__"] (supNF qual st cda cc) f A outer s H E).env.scope pn := .inl (S.par _ (by simp))
    have vS : Vis (ncx CX0 P w K mg base ["self", pn, "__class__"] (supNF qual st cda cc) f A outer s H E).env.scope "self" := .inl (S.par _ (by simp))
    rw [hbd]
    refine two_run (te := fun σ H Q => tJs [tC (.str lit), tFmt (tVar 1)] Str.empty σ H fun out H1 => Q (.str out) H1) T I rfl hks (S.frk _ (by simp)) (by rw [har2]; exact S.par _ (by simp)) har (by rw [har2]; rfl) rfl ha
      (pe_joined (.cons pe_str (.cons (pe_fmt (pe_var (i := 1) rfl vN hd1 hd2)) .nil)))
      (ps_ost (pe_var (i := 0) rfl vS) (pe_var (i := 1) rfl vN hd1 hd2)) ?_ (form_of _ hln) (by rfl) (by show ((defScope st).kind == _ && _) = false; rw [S.kind]; rfl)
    have e0 := lit_small hlit
    have e1 := int_text_length_le (k := 1920) (by decide) hi
    refine ⟨lit, rfl, by rw [sizeLine_eq]; omega, _, rfl, .inr ⟨i, rfl, hi, Str.ofString (toString i), rfl, ?_, Nat.le_refl _, ha, ?_⟩⟩
    · rw [Str.length_append, PySem.ofString_length, sizeLine_eq]
      omega
    · exact ⟨_, rfl, _, rfl, a, C, rfl, T.oex, hno, .inl ⟨ha, fun dx h1 h2 => hQ dx h1 h2⟩⟩
/-- the same where the argument is a text, shown by its repr -/
theorem err_txt {lit : Str} {j : Nat} {q1 q2 q3 q4 p0 p1 p2 p3 p4 r1 r2 r3 r4 : Pos} {ar : Arg} (T : ErrTxt P K mg C f cda cc qual st)
    (hbd : defBody st = [.Expr (.Call (.Attribute (.Call (.Name "super" p0) [] [] p1) "__init__" p2) [.JoinedStr [.Constant (.str lit) j q1, .FormattedValue (.Name pn q2) 114 none q3] q4] [] p3) p4,
      .Assign [.Attribute (.Name "self" r1) pn r2] (.Name pn r3) r4]) (hln : (p2.endLine == p3.line) = true)
    (S : NScope ["self", pn, "__class__"] ["self", pn] ["__class__"] (defScope st))
    (hb : ∀ (oc : Value) (od an : Option Addr) (kV doc pm ct : Value) (us : List Value), us.length = 2 →
      bindArgs (PySem.W.fnX "__init__" qual (defArgs st) (defBody st) (defScope st) [("__class__", cc)] .none kV doc pm an (.ref cda) ct) ⟨us, []⟩ = pure ((["self", pn] : List Str).zip us))
    (hks : (defScope st).names.lookup ("super" : Str) = some .globalImplicit)
    (har : ((defArgs st).posonlyargs ++ (defArgs st).args).head? = some ar) (har2 : ar.arg = "self")
    (hd1 : (pn == ("__debug__" : Str)) = false) (hd2 : (pn == ("__classdict__" : Str)) = false)
    (hlit : lit.length ≤ 1000) (hno : PySem.W.findIn K (.ref C) pn = some none) :
    ∃ fd, FnOk P w K mg base CX0 2 f fd ["self", pn] (spErr C pn okTxt) ∧ Binds K fd ["self", pn] [] := by
  refine sup_fn T S (fun vs H Q E h => ?_) hb fun A outer s H vs Q E hsp hroom s1 I => ?_
  · obtain ⟨a, v, rfl, _⟩ := h
    rfl
  · obtain ⟨a, v, rfl, ha, ⟨y, rfl, hy⟩, hQ⟩ := hsp
    have vN : Vis (ncx CX0 P w K mg base ["self", pn, "__class__"] (supNF qual st cda cc) f A outer s H E).env.scope pn := .inl (S.par _ (by simp))
    have vS : Vis (ncx CX0 P w K mg base ["self", pn, "__class__"] (supNF qual st cda cc) f A outer s H E).env.scope "self" := .inl (S.par _ (by simp))
    rw [hbd]
    refine two_run (te := fun σ H Q => tJs [tC (.str lit), tFmtR (tVar 1)] Str.empty σ H fun out H1 => Q (.str out) H1) T I rfl hks (S.frk _ (by simp)) (by rw [har2]; exact S.par _ (by simp)) har (by rw [har2]; rfl) rfl ha
      (pe_joined (.cons pe_str (.cons (pe_fmtR (pe_var (i := 1) rfl vN hd1 hd2)) .nil)))
      (ps_ost (pe_var (i := 0) rfl vS) (pe_var (i := 1) rfl vN hd1 hd2)) ?_ (form_of _ hln) (by rfl) (by show ((defScope st).kind == _ && _) = false; rw [S.kind]; rfl)
    have e0 := lit_small hlit
    refine ⟨lit, rfl, by rw [sizeLine_eq]; omega, _, rfl, .inl ⟨y, rfl, by rw [sizeLine_eq]; omega, reprText y, rfl, ?_, Nat.le_refl _, ha, ?_⟩⟩
    · rw [Str.length_append, sizeLine_eq]
      omega
    · exact ⟨_, rfl, _, rfl, a, C, rfl, T.oex, hno, .inl ⟨ha, fun dx h1 h2 => hQ dx h1 h2⟩⟩
end

/-! ### an own error, ready to be raised and caught -/
structure ErrOk (P : Program) (w : World) (K : PySem.W.Frag) (mg : Str → Option Value) (base : Heap) (nm : Str) (C : Addr) (fl : Str) (ok : V → Prop) : Prop where
  oex : OexC K C
  xf : XfC K C
  g : mg nm = some (.ref C)
  no : PySem.W.findIn K (.ref C) fl = some none
  te : PySem.W.exmOne K (.ref C) (.ref C) = some true
  run : ∃ (f : Addr) (fd : FuncData), PySem.W.findIn K (.ref C) "__init__" = some (some (.ref f)) ∧ PySem.W.typeIn K (.ref f) = some (.type "function") ∧
    FnOk P w K mg base CX0 2 f fd ["self", fl] (spErr C fl ok) ∧ Binds K fd ["self", fl] []

section
variable {X : Cx} {nm : Str} {C : Addr} {fl : Str} {ok : V → Prop} {e : Expr} {ta : TA} {p pos pos2 : Pos} {W : WX}
/-- raise nm(e) -/
def tErr (C : Addr) (fl : Str) (ok : V → Prop) (ta : TA) (W : WX) : TS := fun _ σ H => tMkO C (spErr C fl ok) [] ta σ H fun cls d H' => W cls d σ H'
theorem ps_err (R : ErrOk X.prog X.w X.K X.mg X.base nm C fl ok) (hc : X.calm = true) (tk : Takes X W) (hr : Room 3 X.A) (ha : PA X [e] ta) (hg : Gl X nm)
    (hdb : (nm == ("__debug__" : Str)) = false := by decide) (he : starEach [e] X.env = (false, eval e X.env) :: starEach [] X.env := by rfl) (hpl : (backTo pos (starEach [] X.env)).any (·.1) = false := by rfl) :
    PS X (.Raise (some (.Call (.Name nm p) [e] [] pos)) none pos2) (tErr C fl ok ta W) := by
  obtain ⟨f, fd, h1, h2, h3, h4⟩ := R.run
  exact ps_raise hc tk (pmk_oex R.oex h1 h2 h3 hr h4 .nil pass0 hg R.g ha hdb he hpl)
/-- what such a raise asks: the argument is fit, and every way out is met -/
theorem err_way {H1 : Hp} {v : V} {Q : XK} (hv : ok v) (h : ∀ d, H1 d = none → Q (.ref C) (some d) (upd H1 d (.xd [(fl, v)]))) :
    [v].length ≤ 1000 ∧ ∀ a, H1 a = none → spErr C fl ok (.ref a :: ([v] ++ [])) (upd H1 a (exo a C none))
      (fun r H2 => r = .non ∧ ∃ (d : Addr) (fs : List (Str × V)), H2 a = some (exo a C (some d)) ∧ H2 d = some (exd d fs) ∧ H1 d = none ∧ Q (.ref C) (some d) (upd (del H2 a) d (.xd fs))) (fun _ _ _ => False) := by
  refine ⟨by show 1 ≤ 1000; omega, fun a hn => ⟨a, v, rfl, upd_same, hv, fun dx hdx hne => ⟨rfl, dx, _, upd_same, by rw [upd_ne hne, upd_same], ?_, ?_⟩⟩⟩
  · rw [upd_ne hne] at hdx
    exact hdx
  · have hd1 : H1 dx = none := by
      rw [upd_ne hne] at hdx
      exact hdx
    have e : upd (del (upd (upd (upd H1 a (exo a C none)) dx (exd dx [(fl, v)])) a (exo a C (some dx))) a) dx (.xd [(fl, v)]) = upd H1 dx (.xd [(fl, v)]) := by
      funext b
      by_cases hb : b = dx
      · rw [hb, upd_same, upd_same]
      · rw [upd_ne hb, upd_ne hb]
        by_cases hba : b = a
        · rw [hba, del_same, hn]
        · rw [del_ne hba, upd_ne hba, upd_ne hb, upd_ne hba]
    rw [e]
    exact h dx hd1
end
end Sup

/-! The text of a list, whatever is under way: some text of bounded length. -/
namespace Txs
open PySem PySem.Spec PyProof.Rows
section
variable {prog : Program} {w : World}
/-- the text of an item: some text of at most m signs; what stands in h0 is kept by whoever asks -/
def Tx (prog : Program) (w : World) (h0 : Heap) (m : Nat) (x : Value) : Prop :=
  ∀ (b : Nat), b + m ≤ sizeLine → ∀ (A : Around) (E : Value → Shared → Prop) (s : Shared) (Q : Str → Shared → Prop), A.units + 4 < cLine →
    (∀ c o, h0.get? c = some o → s.heap.get? c = some o) → (∀ (t : Str) (tk : Tok), t.length ≤ m → Q t { s with toks := tk }) → wpAny (model prog w) A (pyReprUnder b x) Q E s
theorem Tx.int {h0 : Heap} {i : Int} (t : Tok) (hi : i.natAbs.log2 < 1920) : Tx prog w h0 1921 (.int i t) := by
  intro b hb A E s Q _ _ h
  have e := int_text_length_le (k := 1920) (by decide) hi
  have e2 : (Str.ofString (toString i)).length ≤ 1921 := by rw [PySem.ofString_length]; exact e
  exact ReprIs.int t hi b (by omega) A E s Q fun tk => h _ tk e2
theorem Tx.mono {h0 : Heap} {m n : Nat} {x : Value} (T : Tx prog w h0 m x) (hmn : m ≤ n) : Tx prog w h0 n x := fun b hb A E s Q hu hk h =>
  T b (by omega) A E s Q hu hk fun t tk ht => h t tk (by omega)
theorem way_len : ("(...)" : Str).length ≤ 5 := by decide +kernel
/-- a tuple of things whose texts are settled -/
theorem Tx.tup {h0 : Heap} {a : Addr} {o : Obj} {items : Array Value} {n : Nat} {ts : List Str} (ha : h0.get? a = some o) (hc : o.cls = .type "tuple") (hd : o.data = .seq items n) (hT : ReprAll prog w items.toList ts) :
    Tx prog w h0 ((tupleText ts).length + 5) (.ref a) := by
  intro b hb A E s Q hu hk h
  have ha' := hk _ _ ha
  refine wpAny_pyReprUnder_ref (by omega) (wpAny_pyReprObjUnder_twin (T := "tuple") (twin := "tuple.__repr__.under") ⟨o, ha', hc⟩ F.slot_tuple_repr rfl (by omega) ?_)
  refine call_twin_own (F.quiet_tuple_repr_under _) F.entry_tuple_repr_under F.check_tuple_repr_under ⟨o, ha', hc⟩ F.slot_tuple_repr (F.args_tuple_repr_1 _) (wpOwn_of_wpAny ?_)
  show wpAny _ _ (Builtin.tupleReprAt b ⟨[.ref a], []⟩) _ _ s
  rw [tuple_repr_tree]
  refine wpAny_bind (fmt_underWay fun c => ?_)
  cases c with
  | true =>
    refine PySem.W.KFB.if_so rfl (wpAny_bind (wpAny_rule (wpAny_bind (wpAny_mkStr (wpAny_pure ?_) (by decide +kernel)))))
    exact ⟨⟨_, _, rfl⟩, _, _, rfl, h "(...)" _ (Nat.le_trans way_len (Nat.le_add_left _ _))⟩
  | false =>
    refine PySem.W.KFB.if_not rfl (wpAny_tupleReprRest ha' hd hT (fun u tk => ?_) (by omega))
    exact ⟨⟨_, _, rfl⟩, _, _, rfl, h (tupleText ts) tk (Nat.le_add_right _ _)⟩
theorem piled_le {m : Nat} : ∀ {ts : List Str}, (∀ t ∈ ts, t.length ≤ m) → piled ts ≤ (m + 2) * ts.length
  | [], _ => Nat.zero_le _
  | t :: ts, h => by
    have h1 := h t List.mem_cons_self
    have h2 := piled_le (ts := ts) fun u hu => h u (List.mem_cons_of_mem _ hu)
    rw [piled_cons, List.length_cons, Nat.mul_succ]
    omega
theorem listText_le : ∀ ts : List Str, (listText ts).length ≤ piled ts + 2
  | [] => by
    show (listText []).length ≤ 2
    rw [listText_nil]
    decide +kernel
  | t :: r => by
    have h := textFrom_length_pos r 1 (("[" : Str) ++ (if (0 : Nat) > 0 then ", " else "" : String) ++ t) (Nat.succ_pos 0)
    have e : ((("[" : Str) ++ (if (0 : Nat) > 0 then ", " else "" : String) ++ t)).length = 1 + t.length := by
      rw [strLen_append, strLen_append]; rfl
    have e3 : (listText (t :: r)).length = (textFrom 1 (("[" : Str) ++ (if (0 : Nat) > 0 then ", " else "" : String) ++ t) r).length + 1 := by
      show (textFrom 1 _ r ++ "]").length = _
      rw [strLen_append]; rfl
    rw [e3, h, e, piled_cons]
    omega
variable {A : Around} {R : Result → Shared → Prop}
theorem units_loop (A : Around) (args : Args) : (A.under (.builtin "list.__repr__.loop" args)).units ≤ A.units + 1 := by
  have e : (A.under (.builtin "list.__repr__.loop" args)).units = A.units + 1 ∨ (A.under (.builtin "list.__repr__.loop" args)).units = A.units := by
    first
      | exact .inl rfl
      | exact .inr rfl
      | simp [Around.under, Code.cUnits, Code.frames, Code.isFrame]
  rcases e with e | e <;> omega
theorem run_loop {h0 : Heap} {a Pa : Addr} {items : Array Value} {m b : Nat} (hP0 : h0.get? Pa = none) (hT : ∀ (i : Nat) (x : Value), items[i]? = some x → Tx prog w h0 m x)
    (hsz : b + ((m + 2) * items.size + 2 + m) ≤ sizeLine) (hu : A.units + 5 < cLine) {oa : Obj} {na : Nat} (ha : h0.get? a = some oa) (hda : oa.data = .seq items na) :
    ∀ (k i : Nat) (s : Shared) (acc : Array Value) (c : Nat) (done : List (Str × Tok)), items.size - i = k → i ≤ items.size → (∀ c o, h0.get? c = some o → s.heap.get? c = some o) →
    s.heap.get? Pa = some { cls := .type "list", dict := none, data := .seq acc c, slots := #[] } → acc.toList = strValues done → done.length = i → (∀ p ∈ done, p.1.length ≤ m) →
    (∀ h' (t : Str) u tk, t.length ≤ (m + 2) * items.size + 2 → (∀ b o, b ≠ Pa → s.heap.get? b = some o → h'.get? b = some o) → R (.ok (.ret (.str t u))) { s with heap := h', toks := tk }) →
    codeAny (model prog w) A (.builtin "list.__repr__.loop" ⟨[.ref a, rawInt i, .ref Pa, rawInt ((b + piled (done.map (·.1)) : Nat) : Int)], []⟩) R s := by
  intro k
  induction k with
  | zero =>
    intro i s acc c done hk hi hk0 hP hacc hdone hm hR
    have hin : i = items.size := by omega
    refine codeAny_builtin F.entry_list_repr_loop ?_
    show wpAny _ _ (Builtin.«list.__repr__.loop» ⟨[.ref a, .int i 0, .ref Pa, .int ((b + piled (done.map (·.1)) : Nat) : Int) 0], []⟩) _ _ s
    rw [repr_loop_tree]
    refine wpAny_bind (wpAny_listItems (hk0 _ _ ha) hda ?_)
    have hnone : items[(i : Int).toNat]? = none := by simp [hin]
    simp only [hnone]
    unfold reprEnd
    refine wpAny_bind (wpAny_listItems hP rfl ?_)
    rw [hacc, repr_fold]
    have hpl := piled_le (m := m) (ts := done.map (·.1)) fun t ht => by
      obtain ⟨p, hp, rfl⟩ := List.mem_map.mp ht
      exact hm p hp
    have hlt := listText_le (done.map (·.1))
    rw [List.length_map, hdone, hin] at hpl
    refine wpAny_bind (wpAny_pure (wpAny_bind (wpAny_mkStr (wpAny_pure ?_) (show (listText (done.map (·.1))).length ≤ sizeLine by omega))))
    exact hR s.heap (listText (done.map (·.1))) _ _ (by omega) (fun _ _ _ e => e)
  | succ k ih =>
    intro i s acc c done hk hi hk0 hP hacc hdone hm hR
    have hlt : i < items.size := by omega
    have hrep := hT i items[i] (by simp [hlt])
    have hpl := piled_le (m := m) (ts := done.map (·.1)) fun t ht => by
      obtain ⟨p, hp, rfl⟩ := List.mem_map.mp ht
      exact hm p hp
    rw [List.length_map, hdone] at hpl
    have hmul : (m + 2) * i ≤ (m + 2) * items.size := Nat.mul_le_mul_left _ hi
    refine codeAny_builtin F.entry_list_repr_loop ?_
    show wpAny _ _ (Builtin.«list.__repr__.loop» ⟨[.ref a, .int i 0, .ref Pa, .int ((b + piled (done.map (·.1)) : Nat) : Int) 0], []⟩) _ _ s
    rw [repr_loop_tree]
    refine wpAny_bind (wpAny_listItems (hk0 _ _ ha) hda ?_)
    have hsome : items[(i : Int).toNat]? = some items[i] := by simp [hlt]
    simp only [hsome]
    rw [Int.toNat_natCast]
    have hul := units_loop A ⟨[.ref a, .int i 0, .ref Pa, .int ((b + piled (done.map (·.1)) : Nat) : Int) 0], []⟩
    refine wpAny_bind (wpAny_holding (hrep (b + piled (done.map (·.1)) + 1) (by omega) _ _ _ _ (Nat.lt_of_le_of_lt (Nat.add_le_add_right hul 4) (by omega)) hk0 fun t tk ht => ?_))
    refine wpAny_bind (wpAny_mkStr ?_ (show t.length ≤ sizeLine by omega))
    refine wpAny_bind ?_
    show wpAny _ _ (updateSeq Pa _) _ _ _
    have hasz : acc.size ≤ sizeLine := by
      have e1 : acc.toList.length = acc.size := by simp
      have e2 : (strValues done).length = done.length := by simp [strValues]
      have e3 : i ≤ (m + 2) * items.size := Nat.le_trans hi (Nat.le_mul_of_pos_left _ (by omega))
      rw [hacc] at e1; omega
    refine wpAny_updateSeq hP rfl (wpAny_pure ⟨F.quiet_list_repr_loop _, ?_⟩) hasz
    have e1 : ((i : Int) + 1) = ((i + 1 : Nat) : Int) := by omega
    have e2 : b + piled (done.map (·.1)) + (t.length + 2) = b + piled ((done ++ [(t, tk)]).map (·.1)) := by
      rw [List.map_append, piled_append]
      simp [piled]
      omega
    rw [e1]
    show codeAny _ _ (.builtin "list.__repr__.loop" ⟨[.ref a, rawInt ((i + 1 : Nat) : Int), .ref Pa, rawInt ((b + piled (done.map (·.1)) + (t.length + 2) : Nat) : Int)], []⟩) _ _
    rw [e2]
    have nP : ∀ c o, h0.get? c = some o → Pa ≠ c := fun c o e z => by
      rw [z, e] at hP0
      cases hP0
    refine ih (i + 1) _ (acc.push (.str t tk)) _ (done ++ [(t, tk)]) (by omega) hlt (fun c o e => (Heap.get?_update_other _ _ (nP c o e)).trans (hk0 c o e)) (Heap.get?_update_self _ hP rfl) (by simp [hacc, strValues]) (by rw [List.length_append, hdone]; rfl)
      (fun p hp => ?_) fun h' t' u tk' ht' hh => ?_
    · rcases List.mem_append.mp hp with z | z
      · exact hm p z
      · rw [List.mem_singleton.mp z]
        exact ht
    · exact hR h' t' u tk' ht' fun b o hb e => hh b o hb ((Heap.get?_update_other _ _ (fun z : Pa = b => hb z.symm)).trans e)
end
section
variable {prog : Program} {w : World} {A : Around} {E : Value → Shared → Prop} {s : Shared}
/-- {xs}, a list: some text -/
theorem fmt_list {a : Addr} {items : Array Value} {n m : Nat} {Q : Value → Shared → Prop} (hu : A.units + 8 < cLine) (ha : s.heap.get? a = some { cls := .type "list", data := .seq items n })
    (hT : ∀ (i : Nat) (x : Value), items[i]? = some x → Tx prog w s.heap m x) (hsz : (m + 2) * items.size + 2 + m ≤ sizeLine)
    (h : ∀ h' (t : Str) (u : Tok) tk, t.length ≤ (m + 2) * items.size + 5 → (∀ b o, s.heap.get? b = some o → h'.get? b = some o) → Q (.str t u) { s with heap := h', toks := tk }) : wpAny (model prog w) A (formatField (.ref a) Str.empty) Q E s := by
  refine wpAny_formatField_slot (T := "list") (idr := "list.__repr__") (fun _ _ => nofun) (by omega) ⟨_, ha, rfl⟩ F.slot_list_format F.slot_list_str F.slot_list_repr.toG ?_
  have hs0 : ({ s with toks := s.toks + 1 } : Shared).heap = s.heap := rfl
  refine wpAny_call (codeAny_call_builtin F.slot_list_repr.plain F.entry_list_repr (F.slot_list_repr.check _ _ _ _ _ _ _ _ ⟨_, ha, rfl⟩ (F.args_list_repr_1 _) ?_))
  show wpAny _ _ (Builtin.listReprAt 0 ⟨[.ref a], []⟩) _ _ { s with toks := s.toks + 1 }
  have fin : ∀ h' (t : Str) (u : Tok) tk, t.length ≤ (m + 2) * items.size + 5 → (∀ b o, s.heap.get? b = some o → h'.get? b = some o) → ∃ x t', Value.str t u = .str x t' ∧ Q (.str t u) { s with heap := h', toks := tk } :=
    fun h' t u tk h1 h2 => ⟨t, u, rfl, h h' t u tk h1 h2⟩
  unfold Builtin.listReprAt
  refine wpAny_bind (wpAny_of_eq (a := (Value.ref a, ([] : List Value))) (by first | rfl | (simp only [slotArgs]; rfl)) ?_)
  show wpAny _ _ (Builtin.List.listItems (.ref a) >>= _) _ _ { s with toks := s.toks + 1 }
  refine wpAny_bind (wpAny_listItems (s := { s with toks := s.toks + 1 }) ha rfl ?_)
  by_cases he : items.isEmpty = true
  · refine PySem.W.KFB.if_so he (wpAny_bind (wpAny_rule ?_))
    refine wpAny_bind (wpAny_mkStr (wpAny_pure ?_) (by decide +kernel))
    exact fin s.heap _ _ _ (Nat.le_trans (by decide +kernel : ("[]" : Str).length ≤ 5) (Nat.le_add_left _ _)) fun _ _ e => e
  · refine PySem.W.KFB.if_not (by simpa using he) ?_
    refine wpAny_bind (wpAny_stack_any fun st => ?_)
    dsimp only
    refine wpAny_ite_split (fun _ => ?_) (fun _ => ?_)
    · refine wpAny_bind (wpAny_rule ?_)
      refine wpAny_bind (wpAny_mkStr (wpAny_pure ?_) (by decide +kernel))
      exact fin s.heap _ _ _ (Nat.le_trans (by decide +kernel : ("[...]" : Str).length ≤ 5) (Nat.le_add_left _ _)) fun _ _ e => e
    · refine wpAny_bind (m := newList []) (wpAny_newObj_type ?_)
      refine wpAny_pure ⟨F.quiet_list_repr_loop _, ?_⟩
      have q := run_loop (prog := prog) (w := w) (A := A.in1.in1) (h0 := s.heap) (a := a) (Pa := s.heap.objs.size) (items := items) (m := m) (b := 0) (R := fun r s' => match r with
          | .ok (.ret v) => ∃ x t, v = Value.str x t ∧ Q v s'
          | .ok _ => False
          | .error e => E e s') (Heap.get?_none_of_le (Nat.le_refl _)) hT (by omega) (by show A.units + 2 + 5 < cLine; omega) ha rfl items.size 0
          { s with heap := s.heap.push { cls := .type "list", data := .seq #[] }, toks := s.toks + 1 } #[] 0 [] (by omega) (by omega) (fun c o e => Heap.get?_push_of_some _ e) (Heap.get?_push_size _ rfl) rfl rfl (fun p hp => absurd hp (by simp)) ?_
      · exact q
      · intro h' t u tk ht hk
        exact fin h' t u tk (by omega) fun b o e => hk b o (Nat.ne_of_lt (Heap.lt_size e)) (Heap.get?_push_of_some _ e)
end
end Txs
namespace Sup
open PySem PySem.Spec PyProof.Rows L2
/-- what a shown list may hold: whole numbers, tuples of whole numbers -/
def Shown (H : Hp) (xs : List V) : Prop := ∀ v ∈ xs, (∃ i : Int, v = .int i ∧ i.natAbs.log2 < 1920) ∨ ∃ (t : Addr) (ns : List Int), v = .ref t ∧ H t = some (.tup (ns.map V.int)) ∧ ns.length ≤ 10 ∧ ∀ i ∈ ns, i.natAbs.log2 < 1920
theorem reprs_int {prog : Program} {w : World} : ∀ {ns : List Int} {its : List Value}, Vals (ns.map V.int) its → (∀ i ∈ ns, i.natAbs.log2 < 1920) → ReprAll prog w its (ns.map fun i => Str.ofString (toString i))
  | [], _, r, _ => by
    cases r
    exact .nil
  | i :: ns, _, r, h => by
    cases r with
    | cons r1 r2 =>
      obtain ⟨t, rfl⟩ := r1
      exact .cons (ReprIs.int t (h i List.mem_cons_self)) (reprs_int r2 fun z hz => h z (List.mem_cons_of_mem _ hz))
def tFmtL (te : TE) : TE := fun σ H Q => te σ H fun x H1 => ∃ (a : Addr) (xs : List V), x = .ref a ∧ H1 a = some (.lst xs) ∧ xs.length ≤ 60 ∧ Shown H1 xs ∧ ∀ y : Str, y.length ≤ 2000000 → Q (.str y) H1
theorem pe_fmtL {X : Cx} {e : Expr} {te : TE} {pos : Pos} (hu : X.A.units + 64 < cLine) (he : PE X e te) : PE X (.FormattedValue e (-1) none pos) (tFmtL te) := by
  refine ⟨fun pins s σ H Q I h => ?_⟩
  refine wpAny_FormattedValue_plain (thn (he.run pins s σ H _ I h) fun v s1 hv => ?_)
  obtain ⟨x, H1, I1, r1, a, xs, rfl, ht, hlen, hsh, q⟩ := hv
  cases r1
  obtain ⟨_, its, n, rv, ho⟩ := (show ObjOk X.prog X.w H1 s1.heap a (.lst xs) from I1.hok a _ ht)
  have hl : its.length = xs.length := rv.length.symm
  have hsz : (20000 + 2) * its.toArray.size + 2 + 20000 ≤ sizeLine := by
    rw [List.size_toArray, hl, sizeLine_eq]
    omega
  refine Txs.fmt_list (m := 20000) (by omega) ho (fun i y hy => ?_) hsz fun h' t u tk htl hk => ⟨.str t, H1, I1.kept hk, ⟨u, rfl⟩, q t ?_⟩
  · have hy' : its[i]? = some y := by simpa using hy
    have hi : i < xs.length := by
      rw [← hl]
      exact (List.getElem?_eq_some_iff.mp hy').1
    obtain ⟨u, hu', ru⟩ := rv.get (List.getElem?_eq_getElem hi)
    rw [hy'] at hu'
    obtain rfl := Option.some.inj hu'
    rcases hsh _ (List.getElem_mem hi) with ⟨j, ej, hj⟩ | ⟨t, ns, et, htt, h10, hns⟩
    · rw [ej] at ru
      obtain ⟨tk, rfl⟩ := ru
      exact (Txs.Tx.int tk hj).mono (by decide)
    · rw [et] at ru
      obtain rfl : y = Value.ref t := ru
      obtain ⟨its2, r2, ⟨o, ho2, hc2, n2, hd2⟩, _⟩ := I1.tuple (.inl (.inl htt))
      have T := Txs.Tx.tup (prog := X.prog) (w := X.w) (h0 := s1.heap) ho2 hc2 hd2 (reprs_int r2 hns)
      refine T.mono ?_
      have h1 := fmt_text (ns.map fun i => Str.ofString (toString i))
      have h2 := Txs.piled_le (m := 1921) (ts := ns.map fun i => Str.ofString (toString i)) fun z hz => by
        obtain ⟨i, hi, rfl⟩ := List.mem_map.mp hz
        have e := int_text_length_le (k := 1920) (by decide) (hns i hi)
        rw [PySem.ofString_length]
        exact e
      rw [List.length_map] at h2
      have h3 : (1921 + 2) * ns.length ≤ (1921 + 2) * 10 := Nat.mul_le_mul_left _ h10
      omega
  · rw [List.size_toArray, hl] at htl
    omega
end Sup

namespace Sup
open PySem PySem.Spec PyProof.Rows L2 NdefX
/-- the form of super().__init__('..') -/
theorem form_const (env : Env) {p0 p1 p2 p3 q : Pos} {c : Const} {j : Nat} (hln : (p2.endLine == p3.line) = true) : eval (.Call (.Attribute (.Call (.Name "super" p0) [] [] p1) "__init__" p2) [.Constant c j q] [] p3) env = (do
      let ov ← attributeBase (.Call (.Name "super" p0) [] [] p1) "__init__" env (eval (.Call (.Name "super" p0) [] [] p1) env)
      standAt p2.atName
      let (g, first) ← holding [ov] (getMethod ov "__init__" (do return (← importBound (.Call (.Name "super" p0) [] [] p1) env).getD true))
      callWith p3 g first (backTo p3 (starEach [.Constant c j q] env)) []) := by
  have hp : methodCallPos true (.Call (.Name "super" p0) [] [] p1) env p2 p3 = pure p3 := by
    unfold methodCallPos
    rw [hln]
    rfl
  show (do
    let ov ← attributeBase (.Call (.Name "super" p0) [] [] p1) "__init__" env (eval (.Call (.Name "super" p0) [] [] p1) env)
    standAt p2.atName
    let (g, first) ← holding [ov] (getMethod ov "__init__" (do return (← importBound (.Call (.Name "super" p0) [] [] p1) env).getD true))
    let cp ← methodCallPos true (.Call (.Name "super" p0) [] [] p1) env p2 p3
    callWith cp g first (backTo p3 (starEach [.Constant c j q] env)) []) = _
  rw [hp]
  rfl
/-- an error without a field is made -/
def spErr0 (C : Addr) : Sp := fun vs H Q _ => ∃ a : Addr, vs = [.ref a] ∧ H a = some (exo a C none) ∧ Q .non H
/-- an error that keeps a copy of a list -/
def spErrL (C : Addr) (fl : Str) : Sp := fun vs H Q _ => ∃ (a l : Addr) (xs : List V), vs = [.ref a, .ref l] ∧ H a = some (exo a C none) ∧ H l = some (.lst xs) ∧ xs.length ≤ 60 ∧ Shown H xs ∧
  ∀ c dx, H c = none → H dx = none → dx ≠ a → c ≠ a → dx ≠ c → Q .non (upd (upd (upd H c (.lst xs)) dx (exd dx [(fl, .ref c)])) a (exo a C (some dx)))
section
variable {P : Program} {w : World} {K : PySem.W.Frag} {mg : Str → Option Value} {base : Heap} {C f cda cc : Addr} {qual pn : Str} {st : Stmt} {N : List Str}
theorem err_nil {lit : Str} {j : Nat} {q1 p0 p1 p2 p3 p4 : Pos} {ar : Arg} (T : ErrTxt P K mg C f cda cc qual st)
    (hbd : defBody st = [.Expr (.Call (.Attribute (.Call (.Name "super" p0) [] [] p1) "__init__" p2) [.Constant (.str lit) j q1] [] p3) p4]) (hln : (p2.endLine == p3.line) = true)
    (S : NScope ["self", "__class__"] ["self"] ["__class__"] (defScope st))
    (hb : ∀ (oc : Value) (od an : Option Addr) (kV doc pm ct : Value) (us : List Value), us.length = 1 →
      bindArgs (PySem.W.fnX "__init__" qual (defArgs st) (defBody st) (defScope st) [("__class__", cc)] .none kV doc pm an (.ref cda) ct) ⟨us, []⟩ = pure ((["self"] : List Str).zip us))
    (hks : (defScope st).names.lookup ("super" : Str) = some .globalImplicit)
    (har : ((defArgs st).posonlyargs ++ (defArgs st).args).head? = some ar) (har2 : ar.arg = "self") :
    ∃ fd, FnOk P w K mg base CX0 2 f fd ["self"] (spErr0 C) ∧ Binds K fd ["self"] [] := by
  refine sup_fn T S (fun vs H Q E h => ?_) hb fun A outer s H vs Q E hsp hroom s1 I => ?_
  · obtain ⟨a, rfl, _⟩ := h
    rfl
  · obtain ⟨a, rfl, ha, hQ⟩ := hsp
    rw [hbd]
    refine ks_wpAt_execs_cons (ks_wpAt_Expr_any ?_ (by show ((defScope st).kind == _ && _) = false; rw [S.kind]; rfl))
    refine _root_.PySem.wpAt_mono (super_init (Q := fun H1 => Q .non H1) T I rfl hks (S.frk _ (by simp)) (by rw [har2]; exact S.par _ (by simp)) har (by rw [har2]; rfl) rfl ha
      (pe_str (x := lit)) ⟨Nat.le_refl _, ha, hQ⟩ (form_const _ hln) (by rfl)) (fun v s' hh => ?_) fun _ _ z => z
    obtain ⟨H1, I1, q⟩ := hh
    exact _root_.PySem.wpAt_of_wpAny (pss_nil.run [] s' _ H1 { nx := fun _ H' => Q .non H', rt := Q } I1 q)
theorem err_lst {lit : Str} {j : Nat} {q1 q2 q3 q4 p0 p1 p2 p3 p4 r1 r2 r3 r4 r5 r6 : Pos} {ar : Arg} (T : ErrTxt P K mg C f cda cc qual st)
    (hbd : defBody st = [.Expr (.Call (.Attribute (.Call (.Name "super" p0) [] [] p1) "__init__" p2) [.JoinedStr [.Constant (.str lit) j q1, .FormattedValue (.Name pn q2) (-1) none q3] q4] [] p3) p4,
      .Assign [.Attribute (.Name "self" r1) pn r2] (.Call (.Name "list" r3) [.Name pn r4] [] r5) r6]) (hln : (p2.endLine == p3.line) = true)
    (S : NScope ["self", pn, "__class__"] ["self", pn] ["__class__"] (defScope st))
    (hb : ∀ (oc : Value) (od an : Option Addr) (kV doc pm ct : Value) (us : List Value), us.length = 2 →
      bindArgs (PySem.W.fnX "__init__" qual (defArgs st) (defBody st) (defScope st) [("__class__", cc)] .none kV doc pm an (.ref cda) ct) ⟨us, []⟩ = pure ((["self", pn] : List Str).zip us))
    (hks : (defScope st).names.lookup ("super" : Str) = some .globalImplicit)
    (har : ((defArgs st).posonlyargs ++ (defArgs st).args).head? = some ar) (har2 : ar.arg = "self")
    (hd1 : (pn == ("__debug__" : Str)) = false) (hd2 : (pn == ("__classdict__" : Str)) = false)
    (hlit : lit.length ≤ 1000) (hno : PySem.W.findIn K (.ref C) pn = some none)
    (hgl : (defScope st).names.lookup ("list" : Str) = some .globalImplicit) (hml : mg "list" = none) :
    ∃ fd, FnOk P w K mg base CX0 2 f fd ["self", pn] (spErrL C pn) ∧ Binds K fd ["self", pn] [] := by
  refine sup_fn T S (fun vs H Q E h => ?_) hb fun A outer s H vs Q E hsp hroom s1 I => ?_
  · obtain ⟨a, l, xs, rfl, _⟩ := h
    rfl
  · obtain ⟨a, l, xs, rfl, ha, hl, h60, hsh, hQ⟩ := hsp
    have vN : Vis (ncx CX0 P w K mg base ["self", pn, "__class__"] (supNF qual st cda cc) f A outer s H E).env.scope pn := .inl (S.par _ (by simp))
    have vS : Vis (ncx CX0 P w K mg base ["self", pn, "__class__"] (supNF qual st cda cc) f A outer s H E).env.scope "self" := .inl (S.par _ (by simp))
    rw [hbd]
    refine two_run (te := fun σ H Q => tJs [tC (.str lit), tFmtL (tVar 1)] Str.empty σ H fun out H1 => Q (.str out) H1) T I rfl hks (S.frk _ (by simp)) (by rw [har2]; exact S.par _ (by simp)) har (by rw [har2]; rfl) rfl ha
      (pe_joined (.cons pe_str (.cons (pe_fmtL hroom.units (pe_var (i := 1) rfl vN hd1 hd2)) .nil)))
      (ps_ost (pe_var (i := 0) rfl vS) (pe_callTy call_list_of hgl hml (by decide +kernel) (pa_cons (pe_var (i := 1) rfl vN hd1 hd2) pa_nil))) ?_ (form_of _ hln) (by rfl) (by show ((defScope st).kind == _ && _) = false; rw [S.kind]; rfl)
    have e0 := lit_small hlit
    refine ⟨lit, rfl, by rw [sizeLine_eq]; omega, _, rfl, l, xs, rfl, hl, h60, hsh, fun y hy => ⟨y, rfl, ?_, Nat.le_refl _, ha, ?_⟩⟩
    · rw [Str.length_append, sizeLine_eq]
      omega
    · refine ⟨_, rfl, l, xs, rfl, .inl (SqL.of hl), fun c hc => ?_⟩
      have nca : c ≠ a := fun z => by
        rw [z, ha] at hc
        cases hc
      refine ⟨_, rfl, a, C, rfl, T.oex, hno, .inl ⟨by rw [upd_ne (Ne.symm nca)]; exact ha, fun dx h1 h2 => ?_⟩⟩
      have ndc : dx ≠ c := fun z => by
        rw [z, upd_same] at h1
        cases h1
      rw [upd_ne ndc] at h1
      exact hQ c dx hc h1 h2 nca ndc
end
section
variable {X : Cx} {x : Str} {C fI : Addr} {k : Nat} {fd : FuncData} {ps : List Str} {sp : Sp} {e : Expr} {es : List Expr} {ta : TA} {p pos : Pos}
/-- what follows where an own error has just been made, for positional values vs in the heap H1 -/
structure MkV (C : Addr) (sp : Sp) (vs : List V) (H1 : Hp) (Q : VK) : Prop where
  few : vs.length ≤ 1000
  run : ∀ a, H1 a = none → sp (.ref a :: vs) (upd H1 a (exo a C none)) (fun v H2 => v = .non ∧ Q (.ref a) H2) (fun _ _ _ => False)
theorem run_mkV {pins : List (Addr × Obj)} {σ : L2.St} {H1 : Hp} {s1 : Shared} {us : List Value} {vs : List V} {Q : VK} (T : OexC X.K C) (iC : PySem.W.findIn X.K (.ref C) "__init__" = some (some (.ref fI))) (tI : PySem.W.typeIn X.K (.ref fI) = some (.type "function"))
    (F1 : FnOk X.prog X.w X.K X.mg X.base CX0 k fI fd ps sp) (hr : Room (k + 1) X.A) (hb : Binds X.K fd ps []) (I1 : L2.Inv X pins σ H1 s1) (r1 : Vals vs us) (h : MkV C sp vs H1 Q) :
    wpAny (model X.prog X.w) X.A (call (.ref C) us) (EP X pins σ Q) X.xe s1 := by
  obtain ⟨nm, q, N, bs, bm, sn, sub, ab, col, dd, k0, k1, k2, k3, k5, hC, hbm⟩ := T.cls
  obtain ⟨hz, q1⟩ := h
  obtain ⟨hp, g, dr, tk, os⟩ := s1
  have hsz : hp.objs.size ≤ hp.objs.size + 1 := Nat.le_succ _
  have hn : H1 (hp.objs.size + 1) = none := I1.hok.fresh hsz
  have hq := q1 (hp.objs.size + 1) hn
  have kk : ∀ b o, hp.get? b = some o → ((hp.push (PySem.W.kdv_tup us)).push (PySem.HandSPX.excO C hp.objs.size)).get? b = some o :=
    fun b o z => Heap.get?_push_of_some _ (Heap.get?_push_of_some _ z)
  have hget : ((hp.push (PySem.W.kdv_tup us)).push (PySem.HandSPX.excO C hp.objs.size)).get? (hp.objs.size + 1) = some (PySem.HandSPX.excO C hp.objs.size) := by heap_get
  have I2 : L2.Inv X pins σ (upd H1 (hp.objs.size + 1) (exo (hp.objs.size + 1) C none)) ⟨(hp.push (PySem.W.kdv_tup us)).push (PySem.HandSPX.excO C hp.objs.size), g, dr, tk, os⟩ :=
    I1.laid (t' := tk) (a := hp.objs.size + 1) (o := exo (hp.objs.size + 1) C none)
      (h' := (hp.push (PySem.W.kdv_tup us)).push (PySem.HandSPX.excO C hp.objs.size)) kk hsz (exo_ok hget)
  have r2 : Vals (V.ref (hp.objs.size + 1) :: vs) (Value.ref (hp.objs.size + 1) :: us) := .cons rfl r1
  have hl : (Value.ref (hp.objs.size + 1) :: us).length = ps.length := by
    have e := r2.length
    rw [F1.len _ _ _ _ hq] at e
    exact e.symm
  have hus : us.length ≤ sizeLine := by
    rw [← Paired.length r1, sizeLine_eq]
    omega
  have hbd := hb _ (Value.ref (hp.objs.size + 1) :: us) I2.kIn (by rw [List.append_nil]; exact hl)
  rw [List.append_nil] at hbd
  refine wpAny_call (PySem.HandSPX.call_own F.excBase_ValueError (fun Y => PySem.HandSPX.refsVE_contains Y bm hbm) (I1.kIn _ _ hC) (PySem.W.looks_findIn I1.kIn iC) (fun self => PySem.W.bind_fn I1.kIn self tI) hus
    (codeAny_mono (F1.run _ X.stack _ _ ⟨Value.ref (hp.objs.size + 1) :: us, []⟩ (Value.ref (hp.objs.size + 1) :: us) _ _ (fun _ _ _ => False) (hr.make C us []) (I2.env0.make C us []) hbd r2 hq) fun r s' hq' => ?_))
  cases r with
  | error er => exact False.elim hq'
  | ok fl =>
    cases fl with
    | ret u =>
      obtain ⟨v, H2, os2, bare2, un2, hok2, rv, ev, q2⟩ := hq'
      subst ev
      have J := I2.call' (s' := s') (ch := []) os2 un2 hok2 bare2 (fun b z => absurd z (by simp))
      exact ⟨rv, .ref (hp.objs.size + 1), H2, J, rfl, q2⟩
    | next => exact False.elim hq'
    | brk => exact False.elim hq'
    | cont => exact False.elim hq'
theorem pe_mkV (T : OexC X.K C) (iC : PySem.W.findIn X.K (.ref C) "__init__" = some (some (.ref fI))) (tI : PySem.W.typeIn X.K (.ref fI) = some (.type "function"))
    (F1 : FnOk X.prog X.w X.K X.mg X.base CX0 k fI fd ps sp) (hr : Room (k + 1) X.A) (hb : Binds X.K fd ps []) (hg : Gl X x) (hm : X.mg x = some (.ref C)) (ha : PA X (e :: es) ta)
    (hdb : (x == ("__debug__" : Str)) = false := by decide) (he : starEach (e :: es) X.env = (false, eval e X.env) :: starEach es X.env := by rfl) (hpl : (backTo pos (starEach es X.env)).any (·.1) = false := by rfl) :
    PE X (.Call (.Name x p) (e :: es) [] pos) (fun σ H Q => ta σ H fun vs H1 => MkV C sp vs H1 Q) := by
  refine ⟨fun pins s σ H Q I h => ?_⟩
  refine wpAny_Call_Name_kw (ld_glob I hg hm ?_ hdb)
  refine PySem.W.callWith_K (h₀ := X.base) I.ok.mod.kin T.kC
    (thn (ha.run pos pins s σ H _ I h) fun us s1 ⟨vs, H1, I1, r1, q⟩ => ⟨I1.kIn, ?_⟩) he hpl
  exact run_mkV T iC tI F1 hr hb I1 r1 q
theorem pe_mkV0 (T : OexC X.K C) (iC : PySem.W.findIn X.K (.ref C) "__init__" = some (some (.ref fI))) (tI : PySem.W.typeIn X.K (.ref fI) = some (.type "function"))
    (F1 : FnOk X.prog X.w X.K X.mg X.base CX0 k fI fd ps sp) (hr : Room (k + 1) X.A) (hb : Binds X.K fd ps []) (hg : Gl X x) (hm : X.mg x = some (.ref C))
    (hdb : (x == ("__debug__" : Str)) = false := by decide) : PE X (.Call (.Name x p) [] [] pos) (fun σ H Q => MkV C sp [] H Q) := by
  refine ⟨fun pins s σ H Q I h => ?_⟩
  refine wpAny_Call_Name_kw (ld_glob I hg hm ?_ hdb)
  exact PySem.W.callWith_K0 I.kIn T.kC (run_mkV (us := []) T iC tI F1 hr hb I .nil h)
/-- what stands at a is an error of the class at C with these fields -/
def ErrAt (H : Hp) (a C : Addr) (fs : List (Str × V)) : Prop := (H a = some (exo a C none) ∧ fs = []) ∨ ∃ d, H a = some (exo a C (some d)) ∧ H d = some (exd d fs)
theorem ErrAt.inst {pins : List (Addr × Obj)} {σ : L2.St} {H : Hp} {s : Shared} {a : Addr} {fs : List (Str × V)} (I : L2.Inv X pins σ H s) (h : ErrAt H a C fs) :
    ∃ (ox : Obj) (od : Option Obj), PySem.W.InstAt s.heap a ox C od := by
  rcases h with ⟨h, _⟩ | ⟨d, h, hd⟩
  · obtain ⟨t, ho⟩ := exo_at I.hok h
    exact ⟨_, none, ho, rfl, rfl, trivial⟩
  · obtain ⟨t, ho⟩ := exo_at I.hok h
    obtain ⟨mA, hns, _⟩ := exd_at I.hok hd
    obtain ⟨ob, hob, _⟩ := lookIn_ns hns
    exact ⟨_, some ob, ho, rfl, rfl, hob⟩
end
end Sup

namespace Sup
open PySem PySem.Spec PyProof.Rows L2
/-- an own error, ready to be made -/
structure MkE (P : Program) (w : World) (K : PySem.W.Frag) (mg : Str → Option Value) (base : Heap) (nm : Str) (C : Addr) (sp : Sp) (ps : List Str) : Prop where
  oex : OexC K C
  g : mg nm = some (.ref C)
  run : ∃ (f : Addr) (fd : FuncData), PySem.W.findIn K (.ref C) "__init__" = some (some (.ref f)) ∧ PySem.W.typeIn K (.ref f) = some (.type "function") ∧ FnOk P w K mg base CX0 2 f fd ps sp ∧ Binds K fd ps []
section
variable {X : Cx} {nm : Str} {C : Addr} {sp : Sp} {ps : List Str} {e : Expr} {es : List Expr} {ta : TA} {p pos : Pos}
theorem pe_err (M : MkE X.prog X.w X.K X.mg X.base nm C sp ps) (hr : Room 3 X.A) (hg : Gl X nm) (ha : PA X (e :: es) ta)
    (hdb : (nm == ("__debug__" : Str)) = false := by decide) (he : starEach (e :: es) X.env = (false, eval e X.env) :: starEach es X.env := by rfl) (hpl : (backTo pos (starEach es X.env)).any (·.1) = false := by rfl) :
    PE X (.Call (.Name nm p) (e :: es) [] pos) (fun σ H Q => ta σ H fun vs H1 => MkV C sp vs H1 Q) := by
  obtain ⟨f, fd, h1, h2, h3, h4⟩ := M.run
  exact pe_mkV M.oex h1 h2 h3 hr h4 hg M.g ha hdb he hpl
theorem pe_err0 (M : MkE X.prog X.w X.K X.mg X.base nm C sp ps) (hr : Room 3 X.A) (hg : Gl X nm)
    (hdb : (nm == ("__debug__" : Str)) = false := by decide) : PE X (.Call (.Name nm p) [] [] pos) (fun σ H Q => MkV C sp [] H Q) := by
  obtain ⟨f, fd, h1, h2, h3, h4⟩ := M.run
  exact pe_mkV0 M.oex h1 h2 h3 hr h4 hg M.g hdb
end
theorem ErrAt.same {H H' : Hp} {a C : Addr} {fs : List (Str × V)} (h : ErrAt H a C fs) (s : Same H H') : ErrAt H' a C fs := by
  rcases h with ⟨h, e⟩ | ⟨d, h, hd⟩
  · exact .inl ⟨s _ _ h, e⟩
  · exact .inr ⟨d, s _ _ h, s _ _ hd⟩
/-- another object is written -/
theorem ErrAt.upd {H : Hp} {a C p : Addr} {fs : List (Str × V)} {xs : List V} {o : HO} (h : ErrAt H a C fs) (hp : H p = some (.lst xs)) : ErrAt (upd H p o) a C fs := by
  have key : ∀ {b : Addr} {φ : Heap → Prop}, H b = some (.ext φ) → b ≠ p := fun {b φ} e z => by
    rw [z, hp] at e
    cases e
  rcases h with ⟨h, e⟩ | ⟨d, h, hd⟩
  · exact .inl ⟨by rw [upd_ne (key h)]; exact h, e⟩
  · exact .inr ⟨d, by rw [upd_ne (key h)]; exact h, by rw [upd_ne (key hd)]; exact hd⟩
theorem mk_one {C : Addr} {fl : Str} {ok : V → Prop} {v : V} {H1 : Hp} {Q : VK} (hv : ok v) (h : ∀ (a : Addr) (H2 : Hp), H1 a = none → Same H1 H2 → ErrAt H2 a C [(fl, v)] → Q (.ref a) H2) : MkV C (spErr C fl ok) [v] H1 Q := by
  refine ⟨by show 1 ≤ 1000; omega, fun a hn => ⟨a, v, rfl, upd_same, hv, fun dx hdx hne => ⟨rfl, h a _ hn (fun b o e => ?_) (.inr ⟨dx, upd_same, by rw [upd_ne hne, upd_same]⟩)⟩⟩⟩
  rw [upd_ne hne] at hdx
  rw [upd_ne (ne_of_none e hn), upd_ne (ne_of_none e hdx), upd_ne (ne_of_none e hn)]
  exact e
theorem mk_nil {C : Addr} {H1 : Hp} {Q : VK} (h : ∀ (a : Addr) (H2 : Hp), H1 a = none → Same H1 H2 → ErrAt H2 a C [] → Q (.ref a) H2) : MkV C (spErr0 C) [] H1 Q := by
  refine ⟨Nat.zero_le _, fun a hn => ⟨a, rfl, upd_same, rfl, h a _ hn (fun b o e => ?_) (.inl ⟨upd_same, rfl⟩)⟩⟩
  rw [upd_ne (ne_of_none e hn)]
  exact e
theorem mk_lst {C l : Addr} {fl : Str} {xs : List V} {H1 : Hp} {Q : VK} (hl : H1 l = some (.lst xs)) (h60 : xs.length ≤ 60) (hs : Shown H1 xs)
    (h : ∀ (a c : Addr) (H2 : Hp), H1 a = none → H1 c = none → Same H1 H2 → H2 c = some (.lst xs) → ErrAt H2 a C [(fl, .ref c)] → Q (.ref a) H2) : MkV C (spErrL C fl) [.ref l] H1 Q := by
  refine ⟨by show 1 ≤ 1000; omega, fun a hn => ⟨a, l, xs, rfl, upd_same, by rw [upd_ne (ne_of_none hl hn)]; exact hl, h60, fun v hv => ?_, fun c dx hc hdx n1 n2 n3 => ⟨rfl, h a c _ hn ?_ (fun b o e => ?_) ?_ (.inr ⟨dx, upd_same, by rw [upd_ne n1, upd_same]⟩)⟩⟩⟩
  · rcases hs v hv with z | ⟨t, ns, e, ht, r⟩
    · exact .inl z
    · exact .inr ⟨t, ns, e, by rw [upd_ne (ne_of_none ht hn)]; exact ht, r⟩
  · rw [upd_ne n2] at hc
    exact hc
  · rw [upd_ne n2] at hc
    rw [upd_ne n1] at hdx
    rw [upd_ne (ne_of_none e hn), upd_ne (ne_of_none e hdx), upd_ne (ne_of_none e hc), upd_ne (ne_of_none e hn)]
    exact e
  · rw [upd_ne n2, upd_ne (Ne.symm n3), upd_same]
/-- e.f, e an error that stands in the heap -/
def tEx (K : PySem.W.Frag) (n : Str) (te : TE) : TE := fun σ H Q => te σ H fun x H1 => ∃ (a C : Addr) (fs : List (Str × V)) (v : V), x = .ref a ∧ XfC K C ∧ PySem.W.findIn K (.ref C) n = some none ∧ ErrAt H1 a C fs ∧ fs.lookup n = some v ∧ Q v H1
theorem pe_ex {X : Cx} {e : Expr} {te : TE} {pos : Pos} {n : Str} (he : PE X e te) (hb : attributeBase e n X.env (eval e X.env) = eval e X.env := by rfl) : PE X (.Attribute e n pos) (tEx X.K n te) := by
  refine ⟨fun pins s σ H Q I h => attr_of hb (thn (he.run pins s σ H _ I h) fun u s1 hh => ?_)⟩
  obtain ⟨x, H1, I1, rx, a, C, fs, v, rfl, T, hno, hE, hl, q⟩ := hh
  obtain rfl : u = Value.ref a := rx
  rcases hE with ⟨_, e0⟩ | ⟨d, h1, h2⟩
  · rw [e0] at hl
    cases hl
  · obtain ⟨t, ho⟩ := exo_at I1.hok h1
    obtain ⟨mA, hns, hrel⟩ := exd_at I1.hok h2
    obtain ⟨od, hod, hlk⟩ := lookIn_ns hns
    obtain ⟨u, hu, ru⟩ := RelO.some_of (v := v) (o := mA n) (by rw [← hl]; exact hrel n)
    have J : PySem.W.InstAt s1.heap a _ C (some od) := ⟨ho, rfl, rfl, hod⟩
    exact HandSPX.exc_get I1.kIn J T.ga T.gg T.exC (PySem.W.findObj_own T.hdC hno rfl (by rw [hlk, hu])) (handed_of ru) ⟨v, H1, I1.tok _, ru, q⟩
end Sup

namespace Law
open PySem PySem.Spec PyProof.Rows L2 Sup
/-! isinstance of a caught error that has its own dict -/
section
open PySem.W
variable {prog : Program} {w : World} {A : Around} {E : Value → Shared → Prop} {s : Shared} {K : Frag} {x D : Addr} {ox : Obj} {od : Option Obj}
theorem find_data {C : Addr} {nm : Str} {a g : Value} (h1 : (clsIn K C).isSome = true) (h2 : findIn K (.ref C) nm = some (some a)) (h3 : specialIn K a "__get__" = some (some g)) (h4 : takesIn K a = some true) :
    findObj K C od nm = some (.bind g a) := by
  obtain ⟨cd, hcd⟩ := Option.isSome_iff_exists.mp h1
  simp [findObj, hcd, h2, h3, h4]
theorem class_of_err (T : ExcC K D) {Q : Option Value → Shared → Prop} (X : K.In s.heap) (I : InstAt s.heap x ox D od) (h : Q (some (.ref D)) { s with toks := s.toks + 1 }) :
    wpAny (model prog w) A (getAttr? (.ref x) "__class__") Q E s := by
  have isS : (clsIn K D).isSome = true := by
    obtain ⟨cd, hcd, _⟩ := any_some T.hd
    rw [hcd]; rfl
  have hf : findObj K D od "__class__" = some (.bind (.builtin "getset_descriptor.__get__") (.builtin "object.__class__")) :=
    find_data isS T.ha T.hn T.ht
  obtain ⟨hp, g, d, t, os⟩ := s
  have M0 := I.type (M := model prog w)
  have M1 := looks_findIn (M := model prog w) X T.hg
  have M2 := looks_findIn (M := model prog w) X T.hk
  have M3 := looks_find (M := model prog w) X I hf
  have sub : Looks (model prog w) hp (isInstance (.ref x) (.type "BaseException")) true := M0.andThen (looks_subIn X T.hs)
  have n0 : (false && onTheHeap (Value.builtin "BaseException.__getattribute__")) = false := rfl
  have n1 : (onTheHeap (Value.ref D) && Value.builtin "BaseException.__getattribute__" == Value.builtin "object.__getattribute__") = false := by
    have z : (Value.builtin "BaseException.__getattribute__" == Value.builtin "object.__getattribute__") = false := by decide +kernel
    rw [z]; rfl
  unfold getAttr? getAttrBy? getAttrBy
  refine wpAny_bind (wpAny_mkText (wpAny_bind (wpAny_attempt (wpAny_holding (wpAny_bind (M0.at (wpAny_bind (M1.at ?_))))))))
  show wpAny _ _ (if (onTheHeap (Value.ref D) && Value.builtin "BaseException.__getattribute__" == Value.builtin "object.__getattribute__") = true
    then _ else _) _ _ _
  rw [n1, if_neg Bool.false_ne_true]
  unfold getAttrByItsOwn hookBefore
  refine wpAny_bind ?_
  rw [if_pos (show onTheHeap (Value.ref D) = true from rfl)]
  refine M2.at ?_
  refine wpAny_bind (wpAny_attempt (wpAny_holding ?_))
  unfold callGetattribute
  rw [n0, if_neg Bool.false_ne_true]
  unfold boundAndCalled
  rw [PySem.F.excAttr_ValueError.ga.bind (.ref x)]
  refine wpAny_bind (wpAny_pure ?_)
  show wpAny _ _ (call (.builtin "BaseException.__getattribute__")
    [.ref x, .str "__class__" t]) _ _ _
  refine wpAny_call (codeAny_call_builtin PySem.F.excAttr_ValueError.ga.plain PySem.F.entry_bexc_ga ?_)
  refine @check_slot (model prog w) _ _ ⟨hp, g, d, t + 1, os⟩ "BaseException.__getattribute__" "BaseException" "__getattribute__" (.ref x)
    [.str "__class__" t] [] _ (by decide +kernel) (by decide +kernel) sub (PySem.F.args_bexc_ga (.ref x) (.str "__class__" t)) ?_
  unfold Builtin.«object.__getattribute__»
  refine wpAny_bind (wpAny_of_eq (a := ((Value.ref x : Value), [Value.str "__class__" t])) (by first | rfl | (simp only [slotArgs]; rfl)) ?_)
  refine wpAny_bind (wpAny_pure (wpAny_bind (M0.at (wpAny_bind (M3.at ?_)))))
  show wpAny _ _ (holding [Value.builtin "object.__class__"] (call (.builtin "getset_descriptor.__get__")
    [.builtin "object.__class__", .ref x, .ref D]) >>= ret) _ _ _
  refine wpAny_bind (wpAny_holding (wpAny_call (class_get (s := ⟨hp, g, d, t + 1, os⟩) (ox := ox) (od := od) X I T.hm ?_)))
  refine wpAny_pure ?_
  show wpAny _ _ (handedOut (.ref D)) _ _ _
  rw [handedOut_of (v := .ref D) rfl]
  first
    | exact wpAny_pure (wpAny_pure h)
    | exact wpAny_pure h
    | exact wpAny_pure (wpAny_bind (wpAny_pure (wpAny_pure h)))
theorem kit_err (T : ExcC K D) : KitX K (.ref x) (.ref D) (fun h => ∃ od, InstAt h x ox D od) where
  ty := fun _ _ _ ⟨_, I⟩ => I.type
  it := fun _ _ X _ => by
    obtain ⟨cdD, hcD, _⟩ := any_some T.hd
    unfold clsIn at hcD
    split at hcD
    · rename_i ho
      intro A' Q' E' s' k q
      unfold isType loadHead
      exact wpAny_bind (wpAny_loadPart (k _ _ (X _ _ ho)) (wpAny_pure q))
    · cases hcD
  ne := fun h tp dd its n sl X htp => by
    obtain ⟨cdD, hcD, _⟩ := any_some T.hd
    unfold clsIn at hcD
    split at hcD
    · rename_i ho
      refine Bool.eq_false_iff.mpr fun q => ?_
      have e : D = tp := Value.ref.inj (beq_iff_eq.mp q)
      subst e
      have z := (X _ _ ho).symm.trans htp
      cases z
    · cases hcD
  ca := fun X I k => by
    obtain ⟨od, I⟩ := I
    exact class_of_err T X I k
end
/-- isinstance(e, c), e the exception that the suite holds, its own dict at d -/
def rIsD (K : PySem.W.Frag) (D a : Addr) (cls : Value) (d : Option Addr) : List V → Hp → VK → Prop := fun xs H Q =>
  ∃ (c : V) (cv : Value) (b : Bool) (dd : Addr) (fs : List (Str × V)), xs = [.ref a, c] ∧ cls = .ref D ∧ d = some dd ∧ H dd = some (.xd fs) ∧ (∀ u, RelV c u → u = cv) ∧ PySem.W.kitOne K (.ref D) cv = some b ∧ Q (.bl b) H
theorem call_isD {X : Cx} {a D : Addr} {oe : Obj} {cls : Value} {d : Option Addr} {pn : List (Addr × Obj)} (T : ExcC X.K D) (hz : Zc cls d oe) (hf : ∃ vs, oe.data = .fields vs) :
    CallR (X.suite a ((a, oe) :: pn)) (.builtin "isinstance") (rIsD X.K D a cls d) := by
  intro pins s σ H xs us Q I r h
  obtain ⟨c, cv, b, dd, fs, rfl, rfl, rfl, hd, hcv, e, q⟩ := h
  cases r with
  | cons rx rr =>
    cases rr with
    | cons rt rr =>
      cases rr
      cases rx
      have ec := hcv _ rt
      subst ec
      obtain ⟨hget, _⟩ := I.pin (a, oe) (List.mem_append.mpr (.inl List.mem_cons_self))
      obtain ⟨vs, hv⟩ := hf
      obtain ⟨mA, hns, _⟩ := (show ObjOk X.prog X.w H s.heap dd (.xd fs) from I.hok dd _ hd)
      obtain ⟨ob, ho, _⟩ := lookIn_ns hns
      have J : ∃ od, PySem.W.InstAt s.heap a oe D od := ⟨some ob, hget, hz.1, by unfold PySem.W.notCls; rw [hv], by rw [hz.2]; exact ho⟩
      exact PySem.W.kia_one (kit_err T) I.kIn J e (fun z => nomatch z) fun tk => ⟨.bl b, H, I.kept (t' := tk) fun _ _ z => z, rfl, q⟩
end Law

/-! Operators, repr and call of instances of own classes. -/
namespace Own
open PySem PySem.Spec PyProof.Rows L2
section
variable {X : Cx} {CX : CXT} {k : Nat} {C g : Addr} {sp : Sp} {E : XK} {pins : List (Addr × Obj)} {σ : L2.St} {H : Hp} {s : Shared}
theorem not_ni {v : V} {u : Value} (r : RelV v u) : u ≠ .notImplemented := fun z => by
  subst z
  cases v <;> first | (cases r; done) | (obtain ⟨_, z⟩ := r; cases z; done) | (obtain ⟨_, z⟩ := r; nomatch z)
theorem back {Q : VK} {u : Value} {s' : Shared} (h : EP X pins σ Q u s') : PySem.W.CmpBack (EP X pins σ Q) u s' := by
  obtain ⟨v, H', I', rv, q⟩ := id h
  have n := not_ni rv
  cases u <;> first | exact h | exact absurd rfl n
/-- a promise of an own method, asked at other surroundings with the same frames -/
theorem run_at {A : Around} {Q : VK} {us : List Value} {vs : List V} (F : FnR X.prog X.w X.K X.mg X.base CX k g sp) (hr : Room k A) (hfr : A.frames = some X.stack) (hx : Passes CX X E) (I : Inv X pins σ H s) (r : Vals vs us) (h : sp vs H Q E) :
    wpAny (model X.prog X.w) A (call (.ref g) us) (EP X pins σ Q) X.xe s := by
  have e0 : Env0 X.prog X.w X.K X.mg X.base A X.stack s H := by
    have e := I.env0
    exact ⟨hfr, e.mod, e.bs, e.bsz, e.funs, e.frf, e.hok, e.bare⟩
  refine wpAny_call (codeAny_mono (F A X.stack s H us vs Q E hr e0 r h) fun r s' hq => ?_)
  cases r with
  | error e => exact hx pins σ H s e s' I hq
  | ok fl =>
    cases fl with
    | ret u => exact I.after hq
    | next => exact False.elim hq
    | brk => exact False.elim hq
    | cont => exact False.elim hq
/-- two instances of the class at C, and what the operator's def promises of them -/
def rOwn (C : Addr) (sp : Sp) (E : XK) : R2 := fun x y H Q => ∃ a b dx dy fs gs, x = .ref a ∧ y = .ref b ∧ H a = some (.ins C dx fs) ∧ H b = some (.ins C dy gs) ∧ sp [.ref a, .ref b] H Q E
theorem op_cmp {op : CmpOp} (hop : ∀ v u, compareOp op v u = richCompare op v u) (F : FnR X.prog X.w X.K X.mg X.base CX k g sp) (hs : PySem.W.findIn X.K (.ref C) (cmpInfo op).2.1 = some (some (.ref g))) (hf : PySem.W.isFn X.K (.ref g) = true)
    (hr : Room k X.A) (hx : Passes CX X E) : OpR X (compareOp op) (rOwn C sp E) := by
  intro pins s σ H x y v u Q I rx ry h
  obtain ⟨a, b, dx, dy, fs, gs, rfl, rfl, ha, hb, hsp⟩ := h
  cases rx
  cases ry
  obtain ⟨mA, J, _⟩ := ins_get I.hok ha
  obtain ⟨mB, J', _⟩ := ins_get I.hok hb
  obtain ⟨od, J, _⟩ := J.look
  obtain ⟨od', J', _⟩ := J'.look
  obtain ⟨m, hF⟩ := I.fr
  rw [hop]
  refine PySem.W.cmp_K (op := op) (tb := .ref C) hr.units0 hF I.ok.mod.kin J J'.type (by simp [PySem.W.notFirst]) hs hf ?_
  exact wpAny_mono (wpAny_call (run_fnR F hr hx I (us := [.ref a, .ref b]) (vs := [.ref a, .ref b]) (.cons rfl (.cons rfl .nil)) hsp)) (fun _ _ z => back z) fun _ _ z => z
theorem op_bin {op : Operator} (hop : ∀ v u : Value, PySem.binaryOp op v u = PySem.binaryOp op v u) (F : FnR X.prog X.w X.K X.mg X.base CX k g sp) (hs : PySem.W.findIn X.K (.ref C) (PySem.dunder op.info.2) = some (some (.ref g))) (hf : PySem.W.isFn X.K (.ref g) = true)
    (hc : PySem.W.selfFirst X.K C = true) (hr : Room k X.A) (hx : Passes CX X E) : OpR X (PySem.binaryOp op) (rOwn C sp E) := by
  intro pins s σ H x y v u Q I rx ry h
  obtain ⟨a, b, dx, dy, fs, gs, rfl, rfl, ha, hb, hsp⟩ := h
  cases rx
  cases ry
  obtain ⟨mA, J, _⟩ := ins_get I.hok ha
  obtain ⟨mB, J', _⟩ := ins_get I.hok hb
  obtain ⟨od, J, _⟩ := J.look
  obtain ⟨od', J', _⟩ := J'.look
  obtain ⟨m, hF⟩ := I.fr
  refine PySem.W.binop_K (op := op) hF I.ok.mod.kin J J'.type hc hs hf ?_
  exact wpAny_mono (wpAny_call (run_fnR F hr hx I (us := [.ref a, .ref b]) (vs := [.ref a, .ref b]) (.cons rfl (.cons rfl .nil)) hsp)) (fun _ _ z => back z) fun _ _ z => z
/-- repr of an instance -/
def rRepr (C : Addr) (sp : Sp) (E : XK) : List V → Hp → VK → Prop := fun xs H Q => ∃ a dx fs, xs = [.ref a] ∧ H a = some (.ins C dx fs) ∧ sp [.ref a] H (fun v H' => ∃ y, v = .str y ∧ Q v H') E
theorem call_repr (F : FnR X.prog X.w X.K X.mg X.base CX k g sp) (hs : PySem.W.findIn X.K (.ref C) "__repr__" = some (some (.ref g))) (hf : PySem.W.isFn X.K (.ref g) = true)
    (hr : Room (k + 1) X.A) (hx : Passes CX X E) : CallR X (.builtin "repr") (rRepr C sp E) := by
  intro pins s σ H xs us Q I r h
  obtain ⟨a, dx, fs, rfl, ha, hsp⟩ := h
  obtain ⟨u, rfl, r1⟩ : ∃ u, us = [u] ∧ RelV (.ref a) u := by
    cases r with
    | cons r1 rr =>
      cases rr
      exact ⟨_, rfl, r1⟩
  cases r1
  obtain ⟨mA, J, _⟩ := ins_get I.hok ha
  obtain ⟨od, J, _⟩ := J.look
  obtain ⟨m, hF⟩ := I.fr
  refine PySem.W.repr_K ?_ hF I.ok.mod.kin J hs hf (wpAny_mono (run_at F ?_ ?_ hx I (us := [.ref a]) (vs := [.ref a]) (.cons rfl .nil) hsp) (fun u s' z => ?_) fun _ _ z => z)
  · have := hr.un
    show X.A.units + 1 < _
    omega
  · exact hr.in1
  · exact I.env0.frames
  · obtain ⟨v, H', I', rv, y, rfl, q⟩ := z
    obtain ⟨t, rfl⟩ := rv
    exact ⟨.str y, H', I', ⟨t, rfl⟩, q⟩
/-! ### != by the own == -/
theorem ifBound_B {M : Model} {A : Around} {Er : Value → Shared → Prop} {s : Shared} {K : PySem.W.Frag} {x C : Addr} {ox : Obj} {od : Option Obj} {name : Str} {id : String} {args : List Value} {Q : Option Value → Shared → Prop} (X : K.In s.heap) (I : PySem.W.InstAt s.heap x ox C od)
    (hs : PySem.W.findIn K (.ref C) name = some (some (.builtin id))) (hb : ∀ self, bindSpecial (.builtin id) self = pure (.builtin id, [self]))
    (h : wpAny M A (call (.builtin id) (.ref x :: args)) (fun v => Q (some v)) Er s) : wpAny M A (callSpecialIfBound? (.ref x) name args) Q Er s := by
  simp only [callSpecialIfBound?, bindSpecialIfBound?]
  refine wpAny_holding (wpAny_bind (wpAny_bind (wpAny_bind (I.type.here ((PySem.W.looks_findIn X hs).here ?_)))))
  refine wpAny_bind (wpAny_askSetting (wpAny_ite ?_))
  have fin : wpAny M A (call (.builtin id) ([.ref x] ++ args) >>= fun v => pure (some v)) Q Er s := wpAny_bind (wpAny_mono h (fun v s' h' => wpAny_pure h') fun _ _ h' => h')
  split
  · exact wpAny_bind ((PySem.W.Looks.of_pure (hb _)).here (wpAny_pure (by exact fin)))
  · exact wpAny_tryCatch (wpAny_bind ((PySem.W.Looks.of_pure (hb _)).here (wpAny_pure (by exact fin))))
def rOwnNe (C : Addr) (sp : Sp) (E : XK) : R2 := fun x y H Q => ∃ a b dx dy fs gs, x = .ref a ∧ y = .ref b ∧ H a = some (.ins C dx fs) ∧ H b = some (.ins C dy gs) ∧ sp [.ref a, .ref b] H (fun v H' => ∃ t, v = .bl t ∧ Q (.bl (!t)) H') E
theorem op_ne (F : FnR X.prog X.w X.K X.mg X.base CX k g sp) (hs : PySem.W.findIn X.K (.ref C) "__eq__" = some (some (.ref g))) (hn : PySem.W.findIn X.K (.ref C) "__ne__" = some (some (.builtin "object.__ne__"))) (hm : PySem.W.mroIn X.K C (.type "object") = some true)
    (hf : PySem.W.isFn X.K (.ref g) = true) (hr : Room (k + 1) X.A) (hx : Passes CX X E) : OpR X (compareOp .NotEq) (rOwnNe C sp E) := by
  intro pins s σ H x y v u Q I rx ry h
  obtain ⟨a, b, dx, dy, fs, gs, rfl, rfl, ha, hb, hsp⟩ := h
  cases rx
  cases ry
  obtain ⟨mA, J, _⟩ := ins_get I.hok ha
  obtain ⟨mB, J', _⟩ := ins_get I.hok hb
  obtain ⟨od, J, _⟩ := J.look
  obtain ⟨od', J', _⟩ := J'.look
  have KI := I.kIn
  have hu1 : X.A.in1.units < cLine := by
    have := hr.un
    show X.A.units + 1 < _
    omega
  have one : wpAny (model X.prog X.w) X.A (tryCompare (.ref a) (cmpInfo .NotEq).2.1 (.ref b)) (fun r s' => ∃ v, r = some v ∧ EP X pins σ Q v s') X.xe s := by
    unfold tryCompare
    refine wpAny_bind (ifBound_B KI J hn PySem.F.cmp_object.ne.bind (wpAny_call (codeAny_call_builtin PySem.F.cmp_object.ne.plain PySem.F.cmpEntry_ne
      (PySem.W.check_slot PySem.F.cmpKind_ne PySem.F.cmpSplit_ne (J.type.andThen (PySem.W.looks_mroIn KI hm)) (PySem.F.cmpArgs_ne _ _) ?_))))
    unfold Builtin.«object.__ne__»
    refine wpAny_bind (m := slotArgs "__ne__" 1 _) (wpAny_pure ?_)
    refine wpAny_bind (m := cRoomFor _ _) (wpAny_cRoomFor hu1 ?_)
    refine wpAny_bind (m := callSpecialIfBound? (.ref a) (Str.ofString "__eq__") _) (PySem.W.ifBound_K KI J hs hf (wpAny_mono (run_at F hr.in1 I.env0.frames hx I (us := [.ref a, .ref b]) (vs := [.ref a, .ref b]) (.cons rfl (.cons rfl .nil)) hsp) (fun u s' z => ?_) fun _ _ z => z))
    obtain ⟨v, H', I', rv, t, rfl, q⟩ := z
    cases rv
    refine wpAny_bind (m := truthy (.bool t)) (wpAny_truthy_bool ?_)
    first
      | exact wpAny_pure (wpAny_pure ⟨_, rfl, .bl (!t), H', I', rfl, q⟩)
      | exact wpAny_pure ⟨_, rfl, .bl (!t), H', I', rfl, q⟩
  show wpAny _ _ (richCompare .NotEq (.ref a) (.ref b)) _ _ _
  unfold richCompare
  simp only [PySem.oneThing_ref]
  refine wpAny_holding (wpAny_bind (wpAny_cRoomFor hr.units0 ?_))
  refine wpAny_bind (J.type.here (wpAny_bind (J'.type.here ?_)))
  rw [if_neg (by simp)]
  refine wpAny_bind (wpAny_pure ?_)
  simp only [Bool.false_eq_true, if_false]
  refine wpAny_bind (wpAny_mono one (fun r s' z => ?_) fun _ _ e => e)
  obtain ⟨v, rfl, hq⟩ := z
  exact wpAny_pure hq
end
/-! ### a def that returns NotImplemented -/
section
variable {P : Program} {w : World} {K : PySem.W.Frag} {mg : Str → Option Value} {base : Heap}
/-- on values of which pre holds the def at f returns NotImplemented and changes nothing -/
def NiOk (P : Program) (w : World) (K : PySem.W.Frag) (mg : Str → Option Value) (base : Heap) (k : Nat) (f : Addr) (pre : List V → Hp → Prop) : Prop :=
  ∀ (A : Around) (outer : List Env) (s : Shared) (H : Hp) (us : List Value) (vs : List V), Room k A → Env0 P w K mg base A outer s H → Vals vs us → pre vs H →
    codeAny (model P w) A (.call (.ref f) ⟨us, []⟩) (fun r s' => r = .ok (.ret .notImplemented) ∧ CE outer P w H s (fun _ H' => H' = H) .none s') s
theorem ni_def {x qual : Str} {st : Stmt} {f : Addr} {fd : FuncData} {N ps : List Str} {k : Nat} {pre : List V → Hp → Prop} {t : Expr} {els rest : List Stmt} {p2 p3 p4 : Pos} (F : Fun K x qual st f fd) (S : FnScope N ps (defScope st)) (hb : Binds K fd ps [])
    (len : ∀ vs H, pre vs H → vs.length = ps.length) (hbd : defBody st = .If t [.Return (some (.Name "NotImplemented" p2)) p3] els p4 :: rest) (hg : (defScope st).names.lookup ("NotImplemented" : Str) = some .globalImplicit) (hm : mg "NotImplemented" = none)
    (htest : ∀ (cdv : Value) (A : Around) (outer : List Env) (s : Shared) (H : Hp) (vs : List V), Room k (A.deeper (envOfC qual (defScope st) s.heap.objs.size f cdv)) → pre vs H →
      ∃ tt, PT (cxOf CX0 P w K mg base N qual (defScope st) f cdv A outer s H (fun _ _ _ => False)).nox t tt ∧ tt (start N vs) H (fun b H' => b = true ∧ H' = H)) :
    NiOk P w K mg base (k + 1) f pre := by
  intro A outer s H us vs hr e0 r hp
  have hl := len _ _ hp
  have hbind := hb s us (e0.mod.kin.keeps fun b o e => (e0.bs b o e).1) (by rw [List.append_nil, ← r.length]; exact hl)
  rw [List.append_nil] at hbind
  obtain ⟨oc, od, kV, doc, pm, an, cdv, ct, osl, rfl, lk, hcd⟩ := F.ex
  have KX : K.In s.heap := e0.mod.kin.keeps fun b o e => (e0.bs b o e).1
  have lim : s.heap.NoLimit := e0.mod.nolimit.keeps fun b o e => (e0.bs b o e).1
  have hkind : ∀ y ∈ ps.zip us, (defScope st).names.lookup y.1 = some .local ∨ ((defScope st).names.lookup y.1 = some .cell ∧ ((cellsFrom (s.heap.objs.size + 1) (defScope st).names []).lookup y.1).isSome = true) := fun ⟨n, v⟩ hy => by
    rcases S.par n (List.of_mem_zip hy).1 with q | q
    · exact .inl q
    · exact .inr ⟨q, PySem.W.cellsFrom_some _ _ _ (.inl q)⟩
  refine codeAny_call_function hr.depth (KX _ _ lk) rfl S.co S.gen rfl (PySem.W.codeRec_of KX hcd) (hbind _ _ _ _ ?_)
  refine wpAny_newFunctionEnv_cells S.kind hkind fun env he s1 x => ?_
  subst he
  refine ⟨lim.keeps x.toInCall.keep, codeAny_func ?_⟩
  obtain ⟨tt, ht, hq⟩ := htest cdv A outer s H vs (hr.deeper _) hp
  have I : L2.Inv (cxOf CX0 P w K mg base N qual (defScope st) f cdv A outer s H (fun _ _ _ => False)) [] (start N vs) H s1 := inv_start S hr.hd e0 hl r x
  rw [hbd]
  refine wpAny_execs_cons (wpAny_If (wpAny_mono (ht.run [] s1 (start N vs) H _ (I.wish _) hq) (fun b s2 h2 => ?_) fun e s' z => False.elim z))
  obtain ⟨H2, I2, rfl, rfl⟩ := h2
  refine wpAny_execs_cons (wpAny_Return_some (ld_blt I2 hg hm (u := .notImplemented) (by decide +kernel) ?_))
  exact ⟨rfl, .non, _, I2.os, I2.bare, I2.base, I2.hok, rfl, rfl⟩
end
section
variable {X : Cx} {CX : CXT} {k : Nat} {C g : Addr} {sp : Sp} {E : XK} {pre : List V → Hp → Prop}
theorem int_eq_ref (a : Int) (t : Tok) (b C dx : Addr) : Meets (Builtin.«int.__eq__» ⟨[.int a t, .ref b], []⟩) (fun _ R s => s.heap.get? b = some (PySem.W.instObj C dx) ∧ R (.ok (.ret Value.notImplemented)) s) :=
  .of_wp fun prog w A R s h => by
    obtain ⟨hp, g, d, tk, os⟩ := s
    obtain ⟨hl, h⟩ := h
    wp_walk using wpAny_load' hl
    exact ⟨_, rfl, h⟩
/-- an instance == a whole number, where the own == declines -/
def rEqI (C : Addr) (pre : List V → Hp → Prop) : R2 := fun x y H Q => ∃ a dx fs i, x = .ref a ∧ y = .int i ∧ H a = some (.ins C dx fs) ∧ pre [.ref a, .int i] H ∧ Q (.bl false) H
theorem op_eqI (N : NiOk X.prog X.w X.K X.mg X.base k g pre) (hs : PySem.W.findIn X.K (.ref C) "__eq__" = some (some (.ref g))) (hf : PySem.W.isFn X.K (.ref g) = true) (hsub : PySem.W.subIn X.K (.type "int") (.ref C) = some false)
    (hr : Room k X.A) : OpR X (compareOp .Eq) (rEqI C pre) := by
  intro pins s σ H x y v u Q I rx ry h
  obtain ⟨a, dx, fs, i, rfl, rfl, ha, hp, q⟩ := h
  cases rx
  obtain ⟨t, rfl⟩ := ry
  obtain ⟨mA, J, _⟩ := ins_get I.hok ha
  obtain ⟨od, J, _⟩ := J.look
  have KI := I.kIn
  show wpAny _ _ (richCompare .Eq (.ref a) (.int i t)) _ _ _
  unfold richCompare
  simp only [PySem.oneThing_ref]
  refine wpAny_holding (wpAny_bind (wpAny_cRoomFor hr.units0 ?_))
  refine wpAny_bind (J.type.here (wpAny_bind ((PySem.W.Looks.of_pure (M := model X.prog X.w) (h := s.heap) (show typeOf (.int i t) = pure (.type "int") from rfl)).here ?_)))
  have hne : (Value.ref C != Value.type "int") = true := by
    have z : (Value.ref C == Value.type "int") = false := Bool.eq_false_iff.mpr fun q => by cases beq_iff_eq.mp q
    show (!(Value.ref C == Value.type "int")) = true
    rw [z]; rfl
  rw [if_pos hne]
  refine wpAny_bind ((PySem.W.looks_subIn KI hsub).here ?_)
  simp only [Bool.false_eq_true, if_false]
  refine wpAny_bind (m := tryCompare (.ref a) _ (.int i t)) ?_
  unfold tryCompare
  have cl : wpAny (model X.prog X.w) X.A (call (.ref g) [.ref a, .int i t]) (fun u s' => u = .notImplemented ∧ L2.Inv X pins σ H s') X.xe s := by
    refine wpAny_call (codeAny_mono (N X.A X.stack s H [.ref a, .int i t] [.ref a, .int i] hr I.env0 (.cons rfl (.cons ⟨t, rfl⟩ .nil)) hp) fun r s' z => ?_)
    obtain ⟨rfl, z⟩ := z
    obtain ⟨v, H', I', rv, e⟩ := I.after z
    rw [e] at I'
    exact ⟨rfl, I'⟩
  refine wpAny_bind (PySem.W.ifBound_K KI J hs hf (wpAny_mono cl (fun u s' z => ?_) fun _ _ z => z))
  obtain ⟨rfl, I'⟩ := z
  refine wpAny_pure ?_
  obtain ⟨mA', J', _⟩ := ins_get I'.hok ha
  obtain ⟨od', J', _⟩ := J'.look
  dsimp only
  refine wpAny_bind (m := tryCompare (.int i t) _ (.ref a)) ?_
  refine wpAny_tryCompare_declines (typeIs_int _ i t) PySem.F.slot_int_eq (call_meets PySem.F.slot_int_eq (typeIs_int _ i t) PySem.F.entry_int_eq (PySem.F.args_int_eq_2 _ _) (int_eq_ref i t a C dx) ⟨J'.at_, rfl, ?_⟩)
  dsimp only
  refine wpAny_bind (wpAny_rule (wpAny_bind (wpAny_isSame_plain (by rfl) (wpAny_pure ?_))))
  have z : (Value.ref a == Value.int i t) = false := Bool.eq_false_iff.mpr fun q => by cases beq_iff_eq.mp q
  rw [z]
  exact ⟨.bl false, H, I', rfl, q⟩
end
/-! ### x(e, ..) and x(), x a local name that holds an instance -/
section
variable {X : Cx} {CX : CXT} {k i : Nat} {C g : Addr} {sp : Sp} {E : XK} {x : Str} {e : Expr} {es : List Expr} {t : TA} {p pos : Pos}
theorem run_ins {pins : List (Addr × Obj)} {σ : L2.St} {H : Hp} {s : Shared} {Q : VK} {a dx : Addr} {fs : List (Str × V)} {us : List Value} {vs : List V} (c : StX.CallO X.K C g) (F : FnR X.prog X.w X.K X.mg X.base CX k g sp) (hr : Room k X.A) (hx : Passes CX X E) (I : L2.Inv X pins σ H s)
    (ha : H a = some (.ins C dx fs)) (r : Vals vs us) (h : sp (V.ref a :: vs) H Q E) : wpAny (model X.prog X.w) X.A (call (.ref a) us) (EP X pins σ Q) X.xe s := by
  obtain ⟨mA, J, _⟩ := ins_get I.hok ha
  obtain ⟨od, J, _⟩ := J.look
  exact wpAny_call (PySem.W.kco_code I.kIn J rfl c.at_ c.fn c.fi (run_fnR (us := .ref a :: us) (vs := .ref a :: vs) F hr hx I (.cons rfl r) h))
def tCallI (i : Nat) (C : Addr) (sp : Sp) (E : XK) (t : TA) : TE := fun σ H Q => ∃ a, σ[i]? = some (some (.ref a)) ∧ t σ H fun vs H1 => (∃ dx fs, H1 a = some (.ins C dx fs)) ∧ sp (V.ref a :: vs) H1 Q E
theorem pe_callI (c : StX.CallO X.K C g) (F : FnR X.prog X.w X.K X.mg X.base CX k g sp) (hr : Room k X.A) (hx : Passes CX X E) (hN : X.N[i]? = some x) (hv : Vis X.env.scope x) (ha : PA X (e :: es) t)
    (hd : (x == ("__debug__" : Str)) = false := by decide) (hcd : (x == ("__classdict__" : Str)) = false := by decide)
    (he : starEach (e :: es) X.env = (false, eval e X.env) :: starEach es X.env := by rfl) (hpl : (backTo pos (starEach es X.env)).any (·.1) = false := by rfl) : PE X (.Call (.Name x p) (e :: es) [] pos) (tCallI i C sp E t) := by
  refine ⟨fun pins s σ H Q I h => ?_⟩
  obtain ⟨a, hs, h⟩ := h
  refine wpAny_Call_Name_kw (thn ((pe_var (pos := p) (i := i) hN hv hd hcd).run pins s σ H (fun v H1 => v = .ref a ∧ H1 = H) I ⟨.ref a, hs, rfl, rfl⟩) fun u s1 ⟨v, H1, I1, r1, ev, eH⟩ => ?_)
  subst ev
  rw [eH] at I1
  cases r1
  refine StX.callO_with (thn (ha.run pos pins s1 σ H _ I1 h) fun us s2 ⟨vs, H2, I2, r, ⟨dx, fs, hi⟩, q2⟩ => ?_) he hpl
  obtain ⟨mA, J, _⟩ := ins_get I2.hok hi
  obtain ⟨od, J, _⟩ := J.look
  exact ⟨⟨C, _, _, J, rfl⟩, run_ins c F hr hx I2 hi r q2⟩
theorem pe_callI0 (c : StX.CallO X.K C g) (F : FnR X.prog X.w X.K X.mg X.base CX k g sp) (hr : Room k X.A) (hx : Passes CX X E) (hN : X.N[i]? = some x) (hv : Vis X.env.scope x)
    (hd : (x == ("__debug__" : Str)) = false := by decide) (hcd : (x == ("__classdict__" : Str)) = false := by decide) : PE X (.Call (.Name x p) [] [] pos) (tCallI i C sp E tNil) := by
  refine ⟨fun pins s σ H Q I h => ?_⟩
  obtain ⟨a, hs, ⟨dx, fs, hi⟩, h⟩ := h
  refine wpAny_Call_Name_kw (thn ((pe_var (pos := p) (i := i) hN hv hd hcd).run pins s σ H (fun v H1 => v = .ref a ∧ H1 = H) I ⟨.ref a, hs, rfl, rfl⟩) fun u s1 ⟨v, H1, I1, r1, ev, eH⟩ => ?_)
  subst ev
  rw [eH] at I1
  cases r1
  obtain ⟨mA, J, _⟩ := ins_get I1.hok hi
  obtain ⟨od, J, _⟩ := J.look
  exact PySem.W.kco_callWith0 (K := X.K) I1.kIn J rfl c.at_ (run_ins (us := []) c F hr hx I1 hi .nil h)
end
end Own

namespace Own
open PySem PySem.Spec PyProof.Rows L2
/-- a promise told of the values as they come -/
theorem fnr_of {P : Program} {w : World} {K : PySem.W.Frag} {mg : Str → Option Value} {base : Heap} {CX : CXT} {k : Nat} {f : Addr} {fd : FuncData} {ps : List Str} {sp : Sp} {dvs : List V} {ds : List Value} (G : FnOk P w K mg base CX k f fd ps sp) (hb : Binds K fd ps ds) (hd : Vals dvs ds) :
    FnR P w K mg base CX k f (fun vs H Q E => sp (vs ++ dvs) H Q E) := fun A outer s H us vs Q E hr e0 r h => by
  have KX : K.In s.heap := e0.mod.kin.keeps fun b o e => (e0.bs b o e).1
  have hl : (us ++ ds).length = ps.length := by
    have e := (r.append hd).length
    rw [G.len _ _ _ _ h] at e
    exact e.symm
  exact G.run A outer s H ⟨us, []⟩ (us ++ ds) (vs ++ dvs) Q E hr e0 (hb s us KX hl) (r.append hd) h
theorem fnr0 {P : Program} {w : World} {K : PySem.W.Frag} {mg : Str → Option Value} {base : Heap} {CX : CXT} {k : Nat} {f : Addr} {fd : FuncData} {ps : List Str} {sp : Sp} (G : FnOk P w K mg base CX k f fd ps sp) (hb : Binds K fd ps []) :
    FnR P w K mg base CX k f sp := (fnr_of G hb .nil).imp fun vs H Q E h => by rw [List.append_nil]; exact h
section
variable {X : Cx} {CX : CXT} {k i : Nat} {C g f : Addr} {sp : Sp} {E : L2.St → XK} {x : Str} {e a b : Expr} {es : List Expr} {t : TA} {ta tb : TE} {p pos : Pos} {fd : FuncData} {ps : List Str} {dvs : List V} {ds : List Value}
theorem run_fnRS {pins : List (Addr × Obj)} {σ : L2.St} {H : Hp} {s : Shared} {Q : VK} {us : List Value} {vs : List V} (F : FnR X.prog X.w X.K X.mg X.base CX k g sp) (hr : Room k X.A) (hx : PassesAt CX X σ (E σ)) (I : L2.Inv X pins σ H s) (r : Vals vs us) (h : sp vs H Q (E σ)) :
    codeAny (model X.prog X.w) X.A (.call (.ref g) ⟨us, []⟩) (fun r s' => match r with | .ok (.ret v) => EP X pins σ Q v s' | .ok _ => False | .error e => X.xe e s') s := by
  refine codeAny_mono (F X.A X.stack s H us vs Q (E σ) hr I.env0 r h) fun r s' hq => ?_
  cases r with
  | error e => exact hx pins H s e s' I hq
  | ok fl =>
    cases fl with
    | ret u => exact I.after hq
    | next => exact False.elim hq
    | brk => exact False.elim hq
    | cont => exact False.elim hq
/-- a + b of two instances of one own class -/
theorem pe_binS {op : Operator} (F : FnR X.prog X.w X.K X.mg X.base CX k g sp) (hs : PySem.W.findIn X.K (.ref C) (PySem.dunder op.info.2) = some (some (.ref g))) (hf : PySem.W.isFn X.K (.ref g) = true) (hc : PySem.W.selfFirst X.K C = true) (hr : Room k X.A)
    (hx : ∀ σ, PassesAt CX X σ (E σ)) (ha : PE X a ta) (hb : PE X b tb) : PE X (.BinOp a op b pos) (fun σ H Q => ta σ H fun x H1 => tb σ H1 fun y H2 => rOwn C sp (E σ) x y H2 Q) := by
  refine ⟨fun pins s σ H Q I h => ?_⟩
  have h' : tOp (fun x y H2 Q => rOwn C sp (E σ) x y H2 Q) ta tb σ H Q := h
  refine wpAny_BinOp (binT ha hb I h' fun v u s2 x y H2 I2 rx ry q => ?_)
  obtain ⟨a, b, dx, dy, fs, gs, rfl, rfl, ha, hb, hsp⟩ := q
  cases rx
  cases ry
  obtain ⟨mA, J, _⟩ := ins_get I2.hok ha
  obtain ⟨mB, J', _⟩ := ins_get I2.hok hb
  obtain ⟨od, J, _⟩ := J.look
  obtain ⟨od', J', _⟩ := J'.look
  obtain ⟨m, hF⟩ := I2.fr
  refine PySem.W.binop_K (op := op) hF I2.ok.mod.kin J J'.type hc hs hf ?_
  exact wpAny_mono (wpAny_call (run_fnRS F hr (hx σ) I2 (us := [.ref a, .ref b]) (vs := [.ref a, .ref b]) (.cons rfl (.cons rfl .nil)) hsp)) (fun _ _ z => back z) fun _ _ z => z
/-- C(e, ..) whose __init__ may raise -/
structure MkS (C : Addr) (sp : Sp) (E : XK) (vs : List V) (H1 : Hp) (Q : VK) : Prop where
  run : ∀ x dx, H1 x = Option.none → H1 dx = Option.none → dx ≠ x → sp (V.ref x :: vs) (upd (upd H1 dx (.own x)) x (.ins C dx [])) (fun v H2 => v = .non ∧ Q (.ref x) H2) E
def tMakeS (C : Addr) (sp : Sp) (E : L2.St → XK) (t : TA) : TE := fun σ H Q => t σ H fun vs H1 => MkS C sp (E σ) vs H1 Q
theorem pe_makeS (M : Mk X.K C f) (F : FnR X.prog X.w X.K X.mg X.base CX k f sp) (hr : Room (k + 1) X.A) (hg : Gl X x) (hm : X.mg x = some (.ref C)) (hx : ∀ σ, PassesAt CX X σ (E σ)) (ha : PA X (e :: es) t) (hdb : (x == ("__debug__" : Str)) = false := by decide)
    (he : starEach (e :: es) X.env = (false, eval e X.env) :: starEach es X.env := by rfl) (hpl : (backTo pos (starEach es X.env)).any (·.1) = false := by rfl) : PE X (.Call (.Name x p) (e :: es) [] pos) (tMakeS C sp E t) := by
  refine ⟨fun pins s σ H Q I h => ?_⟩
  refine wpAny_Call_Name_kw (ld_glob I hg hm ?_ hdb)
  refine PySem.W.callWith_K (h₀ := X.base) I.ok.mod.kin M.kp (thn (ha.run pos pins s σ H _ I h) fun us s1 ⟨vs, H1, I1, r, q⟩ => ⟨I1.kIn, ?_⟩) he hpl
  have hq := q.run (s1.heap.objs.size + 1) s1.heap.objs.size (I1.hok.fresh (Nat.le_succ _)) (I1.hok.fresh (Nat.le_refl _)) (Nat.ne_of_lt (Nat.lt_succ_self _))
  have I2 := Inv.made (C := C) I1
  have r2 : Vals (V.ref (s1.heap.objs.size + 1) :: vs) (Value.ref (s1.heap.objs.size + 1) :: us) := .cons rfl r
  refine wpAny_call (make_map (f := f) I1.kIn M.makes M.init (beq_iff_eq.mp M.fn) (codeAny_mono (F _ X.stack _ _ (Value.ref (s1.heap.objs.size + 1) :: us) _ _ (E σ) (hr.make C us []) (I2.env0.make C us []) r2 hq) fun r s' hq' => ?_))
  cases r with
  | error e => exact hx σ pins _ _ e s' I2 hq'
  | ok fl =>
    cases fl with
    | ret u =>
      obtain ⟨v, H', I3, rv, ev, q3⟩ := I2.after hq'
      subst ev
      exact ⟨rv, ⟨V.ref (s1.heap.objs.size + 1), H', I3, rfl, q3⟩⟩
    | next => exact False.elim hq'
    | brk => exact False.elim hq'
    | cont => exact False.elim hq'
def tCallIS (i : Nat) (C : Addr) (sp : Sp) (E : L2.St → XK) (t : TA) : TE := fun σ H Q => ∃ a, σ[i]? = some (some (.ref a)) ∧ t σ H fun vs H1 => (∃ dx fs, H1 a = some (.ins C dx fs)) ∧ sp (V.ref a :: vs) H1 Q (E σ)
theorem run_insS {pins : List (Addr × Obj)} {σ : L2.St} {H : Hp} {s : Shared} {Q : VK} {a dx : Addr} {fs : List (Str × V)} {us : List Value} {vs : List V} (c : StX.CallO X.K C g) (F : FnR X.prog X.w X.K X.mg X.base CX k g sp) (hr : Room k X.A) (hx : PassesAt CX X σ (E σ)) (I : L2.Inv X pins σ H s)
    (ha : H a = some (.ins C dx fs)) (r : Vals vs us) (h : sp (V.ref a :: vs) H Q (E σ)) : wpAny (model X.prog X.w) X.A (call (.ref a) us) (EP X pins σ Q) X.xe s := by
  obtain ⟨mA, J, _⟩ := ins_get I.hok ha
  obtain ⟨od, J, _⟩ := J.look
  exact wpAny_call (PySem.W.kco_code I.kIn J rfl c.at_ c.fn c.fi (run_fnRS (us := .ref a :: us) (vs := .ref a :: vs) F hr hx I (.cons rfl r) h))
theorem pe_callIS (c : StX.CallO X.K C g) (F : FnR X.prog X.w X.K X.mg X.base CX k g sp) (hr : Room k X.A) (hx : ∀ σ, PassesAt CX X σ (E σ)) (hN : X.N[i]? = some x) (hv : Vis X.env.scope x) (ha : PA X (e :: es) t)
    (hd : (x == ("__debug__" : Str)) = false := by decide) (hcd : (x == ("__classdict__" : Str)) = false := by decide)
    (he : starEach (e :: es) X.env = (false, eval e X.env) :: starEach es X.env := by rfl) (hpl : (backTo pos (starEach es X.env)).any (·.1) = false := by rfl) : PE X (.Call (.Name x p) (e :: es) [] pos) (tCallIS i C sp E t) := by
  refine ⟨fun pins s σ H Q I h => ?_⟩
  obtain ⟨a, hs, h⟩ := h
  refine wpAny_Call_Name_kw (thn ((pe_var (pos := p) (i := i) hN hv hd hcd).run pins s σ H (fun v H1 => v = .ref a ∧ H1 = H) I ⟨.ref a, hs, rfl, rfl⟩) fun u s1 ⟨v, H1, I1, r1, ev, eH⟩ => ?_)
  subst ev
  rw [eH] at I1
  cases r1
  refine StX.callO_with (thn (ha.run pos pins s1 σ H _ I1 h) fun us s2 ⟨vs, H2, I2, r, ⟨dx, fs, hi⟩, q2⟩ => ?_) he hpl
  obtain ⟨mA, J, _⟩ := ins_get I2.hok hi
  obtain ⟨od, J, _⟩ := J.look
  exact ⟨⟨C, _, _, J, rfl⟩, run_insS c F hr (hx σ) I2 hi r q2⟩
theorem pe_callIS0 (c : StX.CallO X.K C g) (F : FnR X.prog X.w X.K X.mg X.base CX k g sp) (hr : Room k X.A) (hx : ∀ σ, PassesAt CX X σ (E σ)) (hN : X.N[i]? = some x) (hv : Vis X.env.scope x)
    (hd : (x == ("__debug__" : Str)) = false := by decide) (hcd : (x == ("__classdict__" : Str)) = false := by decide) : PE X (.Call (.Name x p) [] [] pos) (tCallIS i C sp E tNil) := by
  refine ⟨fun pins s σ H Q I h => ?_⟩
  obtain ⟨a, hs, ⟨dx, fs, hi⟩, h⟩ := h
  refine wpAny_Call_Name_kw (thn ((pe_var (pos := p) (i := i) hN hv hd hcd).run pins s σ H (fun v H1 => v = .ref a ∧ H1 = H) I ⟨.ref a, hs, rfl, rfl⟩) fun u s1 ⟨v, H1, I1, r1, ev, eH⟩ => ?_)
  subst ev
  rw [eH] at I1
  cases r1
  obtain ⟨mA, J, _⟩ := ins_get I1.hok hi
  obtain ⟨od, J, _⟩ := J.look
  exact PySem.W.kco_callWith0 (K := X.K) I1.kIn J rfl c.at_ (run_insS (us := []) c F hr (hx σ) I1 hi .nil h)
end
end Own

/-! Several except clauses, each with a name for the error. -/
namespace TryAs
open PySem PySem.Spec PyProof.Rows L2
abbrev Su := Addr → Value → Option Addr → TS
/-- the ends of a suite whose name in slot i goes behind it -/
def endsOf (i : Nat) (D : Ends) : Ends := { nx := fun σ' H' => D.nx (σ'.set i none) H', rt := D.rt, bk := fun σ' H' => D.bk (σ'.set i none) H', ct := fun σ' H' => D.ct (σ'.set i none) H' }
/-- what the clauses wish of an error, from the first on: class, slot of the name, suite -/
def wAsM (K : PySem.W.Frag) (Wout : WX) (D : Ends) : List (Value × Nat × Su) → WX
  | [] => Wout
  | (c, i, ts) :: r => fun cls d σ H => ∃ b, PySem.W.exmOne K cls c = some b ∧ (b = true → ∀ a, H a = none → ts a cls d (endsOf i D) (σ.set i (some (.ref a))) H) ∧ (b = false → wAsM K Wout D r cls d σ H)
inductive Hds (X : Cx) : List ExceptHandler → List (Value × Nat × Su) → Prop
  | nil : Hds X [] []
  | cons {x n : Str} {c : Value} {i : Nat} {ts : Su} {b₀ : Stmt} {suite : List Stmt} {np pos' : Pos} {hds : List ExceptHandler} {l : List (Value × Nat × Su)} (hi : X.N[i]? = some n) (hln : X.env.kindOf n = some .local) (hc : Names X x c)
      (hsu : ∀ (a : Addr) (oe : Obj) (cls : Value) (d : Option Addr) (pn : List (Addr × Obj)), Zc cls d oe → (∃ vs, oe.data = .fields vs) → PSs (X.suite a ((a, oe) :: pn)) (b₀ :: suite) (ts a cls d)) (r : Hds X hds l) :
      Hds X (.ExceptHandler (some (.Name x np)) (some n) (b₀ :: suite) pos' :: hds) ((c, i, ts) :: l)
section
variable {X : Cx} {body : List Stmt} {h₀ : ExceptHandler} {hds : List ExceptHandler} {l : List (Value × Nat × Su)} {pos : Pos} {tb : WX → TS} {Wout : WX}
theorem ps_try_asM (hs : X.stack = X.env :: X.outer) (hf : X.env.frame = some X.env.locals) (hN : X.N.Nodup) (tk : Takes X Wout)
    (hb : ∀ (W : WX) (pn : List (Addr × Obj)) (xe : Value → Shared → Prop), Takes (X.tr pn xe) W → PassesOwn (model X.prog X.w) X.A X.env xe → PSs (X.tr pn xe) body (tb W))
    (hh : Hds X (h₀ :: hds) l) : PS X (.Try body (h₀ :: hds) [] [] pos) (fun D σ H => tb (wAsM X.K Wout D l) D σ H) := by
  refine ⟨fun pins s σ H D I h => wpAny_Try_except ?_⟩
  have ok := I.ok
  have hfr : X.A.frames = some (X.env :: X.outer) := by rw [ok.frames, hs]
  refine wpAny_mono ((hb (wAsM X.K Wout D l) (X.pn ++ pins) (fun e s₁ => wpAny (model X.prog X.w) X.A (noteFrame e X.env) (fun _ s₂ => wpAny (model X.prog X.w) X.A (setFlight e none) (fun _ s₃ =>
    wpAny (model X.prog X.w) X.A (handleBy e X.env (h₀ :: hds)) (SP X pins D) X.xe s₃) X.xe s₂) X.xe s₁) (fun u s' xx => ?_) PassesOwn.looking).run [] s σ H D (I.toTry _) h) (fun f s1 hsp => ?_) (fun e s1 he => he)
  · obtain ⟨a, B, sI, pins', σ', H', cls, d, rfl, J', nb, up, sky, na, os, ag, w⟩ := xx
    have J : Inv X pins σ' H' sI := J'.ofTry ok
    show wpAny (model X.prog X.w) X.A (noteFrame (.ref a) X.env) _ _ _
    refine Sky.land Zc.steady hfr hf (show Sky B (X.env :: X.outer) a (Zc cls d) X.env.locals s'.heap by rw [← hs]; exact sky) fun h3 fl3 up3 => ?_
    have J3 : Inv X pins σ' H' { s' with heap := h3 } := J.landed nb fl3.1 (up.trans up3) os ag
    obtain ⟨oe3, vs3, he3, hz3, hd3⟩ := fl3.there
    have nfr : a ∉ frs (X.env :: X.outer) := fun hm => by
      obtain ⟨_, o', e', hnf⟩ := fl3.2.2.1.mem hm
      rw [he3] at e'
      cases e'
      exact hnf _ hd3
    have nL : a ≠ X.env.locals := fun z => nfr (List.mem_filterMap.mpr ⟨X.env, List.mem_cons_self, by rw [hf, z]⟩)
    have nF : a ∉ X.fs := fun hm => by
      obtain ⟨e, he, q⟩ := List.mem_filterMap.mp hm
      exact nfr (List.mem_filterMap.mpr ⟨e, List.mem_cons_of_mem _ he, q⟩)
    have S3 := J3.suite he3 hd3 na nL nF
    have go : ∀ {hds' : List ExceptHandler} {l' : List (Value × Nat × Su)}, Hds X hds' l' → wAsM X.K Wout D l' cls d σ' H' →
        wpAny (model X.prog X.w) X.A (handleBy (.ref a) X.env hds') (SP X pins D) X.xe { s' with heap := h3 } := fun {hds' l'} hk => by
      induction hk with
      | nil =>
        intro w
        refine wpAny_handleBy_nil ?_
        obtain ⟨k1, k2, k3, oe, vs, T, oT, ts', he, hz, hd, h1, hr⟩ := id fl3
        unfold PySem.passOn
        refine wpAny_bind (wpAny_field he hd h1 ?_)
        rw [if_neg (show ¬ ((Value.ref T == Value.none) = true) from by simp)]
        have fin : wpAny (model X.prog X.w) X.A (setFlight (.ref a) X.env.frame) (fun _ s4 => wpAny (model X.prog X.w) X.A (throw (.ref a) : Sem Flow) (SP X pins D) X.xe s4) X.xe { s' with heap := h3 } := by
          rw [hf]
          exact HandSPX.setFlight_upZ fl3 fun h4 hh4 up4 => wpAny_throw (tk _ _ ⟨a, B, sI, pins, σ', H', cls, d, rfl, J, nb, (up.trans up3).trans up4, .inr (.inr (by rw [hs]; exact hh4)), na, os, ag, w⟩)
        first
          | exact wpAny_bind (wpAny_pure (wpAny_bind fin))
          | exact wpAny_bind fin
      | @cons x n c i ts b₀ suite np pos' hds2 l2 hi hln hc hsu r ih =>
        intro w
        obtain ⟨b, hb1, hyes, hno⟩ := w
        refine wpAny_handleBy_cons (codeAny_handlers_test ?_) (by intro q; cases q)
        have LT : PySem.W.Looks (model X.prog X.w) h3 (typeOf (.ref a)) cls := fun A Q E s k q => wpAny_typeOf_ref (k _ _ he3) (by rw [hz3.1]; exact q)
        have LM := PySem.W.exm_one (M := model X.prog X.w) (J3.kIn) LT hb1
        have test : ∀ {Q : Value → Shared → Prop} {E : Value → Shared → Prop}, Q c { s' with heap := h3 } → wpAny (model X.prog X.w) (X.A.mark (some (.ref a))) (eval (.Name x np) X.env) Q E { s' with heap := h3 } := fun {Q E} q => by
          obtain ⟨hg, hdbg, hm | ⟨hm, hv, hnn⟩⟩ := hc
          · exact ld_glob (X := X.suite a ((a, oe3) :: (X.pn ++ pins))) S3 hg hm q hdbg
          · exact ld_blt (X := X.suite a ((a, oe3) :: (X.pn ++ pins))) S3 hg hm hv q hnn hdbg
        refine test (LM.here ?_)
        cases b with
        | false => exact ih (hno rfl)
        | true =>
          refine codeAny_handlers_suite_as (HandSPX.lands_againZ fl3 fun h4 fl4 up4 => ?_)
          have J4 : Inv X pins σ' H' { s' with heap := h4 } := J.landed nb fl4.1 ((up.trans up3).trans up4) os ag
          obtain ⟨oe4, vs4, he4, hz4, hd4⟩ := fl4.there
          refine store_ok (X := X.suite a ((a, oe4) :: (X.pn ++ pins))) (v := .ref a) (J4.suite he4 hd4 na nL nF) hN hi (.inl hln) rfl (fun s5 S5 => ?_) (.inr hln)
          refine wpAny_mono ((hsu a oe4 cls d (X.pn ++ pins) hz4 ⟨_, hd4⟩).run [] s5 _ H' _ S5 (hyes rfl a na)) (fun f s6 hsp => ?_) (fun _ _ z => False.elim z)
          cases f with
          | next =>
            obtain ⟨σ6, H6, S6, q6⟩ := hsp
            exact gone_ok (S6.unsuite ok) hN hi hln fun s7 J7 => ⟨_, _, J7, q6⟩
          | brk =>
            obtain ⟨σ6, H6, S6, q6⟩ := hsp
            exact gone_ok (S6.unsuite ok) hN hi hln fun s7 J7 => ⟨_, _, J7, q6⟩
          | cont =>
            obtain ⟨σ6, H6, S6, q6⟩ := hsp
            exact gone_ok (S6.unsuite ok) hN hi hln fun s7 J7 => ⟨_, _, J7, q6⟩
          | ret u =>
            obtain ⟨v6, σ6, H6, S6, r6, q6⟩ := hsp
            exact gone_ok (S6.unsuite ok) hN hi hln fun s7 J7 => ⟨_, _, _, J7, r6, q6⟩
    exact go hh w
  · cases f with
    | next =>
      obtain ⟨σ', H', J', q⟩ := hsp
      exact wpAny_execs_nil ⟨σ', H', J'.ofTry ok, q⟩
    | brk =>
      obtain ⟨σ', H', J', q⟩ := hsp
      exact ⟨σ', H', J'.ofTry ok, q⟩
    | cont =>
      obtain ⟨σ', H', J', q⟩ := hsp
      exact ⟨σ', H', J'.ofTry ok, q⟩
    | ret u =>
      obtain ⟨v, σ', H', J', r, q⟩ := hsp
      exact ⟨v, σ', H', J'.ofTry ok, r, q⟩
end
end TryAs

/-! len and in of instances by their own defs; methods that raise, in a try. -/
namespace Own
open PySem PySem.Spec PyProof.Rows L2
section
variable {X : Cx} {CX : CXT} {k : Nat} {C g : Addr} {sp : Sp} {E : XK}
def rLenO (C : Addr) (sp : Sp) (E : XK) : List V → Hp → VK → Prop := fun xs H Q => ∃ a dx fs, xs = [.ref a] ∧ H a = some (.ins C dx fs) ∧ sp [.ref a] H (fun v H' => ∃ n : Nat, v = .int n ∧ n < 2 ^ 62 ∧ Q v H') E
theorem call_lenO (F : FnR X.prog X.w X.K X.mg X.base CX k g sp) (hs : PySem.W.findIn X.K (.ref C) "__len__" = some (some (.ref g))) (hf : PySem.W.isFn X.K (.ref g) = true)
    (hr : Room (k + 1) X.A) (hx : Passes CX X E) : CallR X (.builtin "len") (rLenO C sp E) := by
  intro pins s σ H xs us Q I r h
  obtain ⟨a, dx, fs, rfl, ha, hsp⟩ := h
  obtain ⟨u, rfl, r1⟩ : ∃ u, us = [u] ∧ RelV (.ref a) u := by
    cases r with
    | cons r1 rr =>
      cases rr
      exact ⟨_, rfl, r1⟩
  cases r1
  obtain ⟨mA, J, _⟩ := ins_get I.hok ha
  obtain ⟨od, J, _⟩ := J.look
  obtain ⟨m, hF⟩ := I.fr
  refine PySem.W.len_K hF I.ok.mod.kin J hs hf (wpAny_mono (run_at F hr.in1 I.env0.frames hx I (us := [.ref a]) (vs := [.ref a]) (.cons rfl .nil) hsp) (fun u s' z => ?_) fun _ _ z => z)
  obtain ⟨v, H', I', rv, n, rfl, hn, q⟩ := z
  obtain ⟨t, rfl⟩ := rv
  exact ⟨⟨by omega, by omega⟩, .int n, H', I'.tok _, ⟨_, rfl⟩, q⟩
/-- x in o, o an instance -/
def rInO (C : Addr) (sp : Sp) (E : XK) : R2 := fun x y H Q => ∃ a dx fs, y = .ref a ∧ H a = some (.ins C dx fs) ∧ sp [.ref a, x] H (fun v H' => ∃ t, v = .bl t ∧ Q v H') E
theorem op_inO (F : FnR X.prog X.w X.K X.mg X.base CX k g sp) (hs : PySem.W.findIn X.K (.ref C) "__contains__" = some (some (.ref g))) (hf : PySem.W.isFn X.K (.ref g) = true)
    (hr : Room k X.A) (hx : Passes CX X E) : OpR X (compareOp .In) (rInO C sp E) := by
  intro pins s σ H x y v u Q I rx ry h
  obtain ⟨a, dx, fs, rfl, ha, hsp⟩ := h
  cases ry
  obtain ⟨mA, J, _⟩ := ins_get I.hok ha
  obtain ⟨od, J, _⟩ := J.look
  obtain ⟨m, hF⟩ := I.fr
  refine PySem.W.in_K hF I.ok.mod.kin J hs hf ?_
  refine wpAny_mono (run_at F hr I.env0.frames hx I (us := [.ref a, v]) (vs := [.ref a, x]) (.cons rfl (.cons rx .nil)) hsp) (fun u s' z => ?_) fun _ _ z => z
  obtain ⟨w, H', I', rv, t, rfl, q⟩ := z
  cases rv
  exact wpAny_truthy_bool ⟨.bl t, H', I', rfl, q⟩
end
section
variable {X : Cx} {CX : CXT} {k : Nat} {C f : Addr} {sp : Sp} {E : L2.St → XK} {m : Str} {o e : Expr} {es : List Expr} {t : TA} {ta : TE} {p pos apos : Pos}
/-- o.m(e, ..) that may raise, at the slots σ -/
def tMethS (C : Addr) (m : Str) (sp : Sp) (E : L2.St → XK) (ta : TE) (t : TA) : TE := fun σ H Q => ta σ H fun x H1 => ∃ a dx fs, x = .ref a ∧ H1 a = some (.ins C dx fs) ∧ fs.lookup m = none ∧ t σ H1 fun vs H2 => sp (x :: vs) H2 Q (E σ)
theorem pe_methW {pl : Sem Bool} (he : PE X o ta) (c : Cls X.K C) (hm : Meth X.K C m f) (F : FnR X.prog X.w X.K X.mg X.base CX k f sp) (hr : Room k X.A) (hx : ∀ σ, PassesAt CX X σ (E σ)) (ha : PA X (e :: es) t)
    (hst : starEach (e :: es) X.env = (false, eval e X.env) :: starEach es X.env := by rfl) (hpl : (backTo pos (starEach es X.env)).any (·.1) = false := by rfl)
    (ht : eval (.Call (.Attribute o m apos) (e :: es) [] pos) X.env = (do
      let ov ← eval o X.env
      standAt apos.atName
      let (f, first) ← holding [ov] (getMethod ov m pl)
      callWith pos f first (backTo pos (starEach (e :: es) X.env)) (backToKw pos (keywordEach [] X.env))) := by rfl) :
    PE X (.Call (.Attribute o m apos) (e :: es) [] pos) (tMethS C m sp E ta t) := by
  refine ⟨fun pins s σ H Q I h => ?_⟩
  refine PySem.W.methodCall_KW (pl := pl) (thn (he.run pins s σ H _ I h) fun u s1 ⟨x, H1, I1, rx, a, dx, fs, ex, ea, l, q⟩ => ?_) ht
  subst ex
  obtain rfl : u = Value.ref a := rx
  refine getmeth_ok I1 ea c hm l ?_
  refine PySem.W.callWith_K (first := [.ref a]) (h₀ := X.base) I.ok.mod.kin hm.kp (thn (ha.run pos pins s1 σ H1 _ I1 q) fun us s2 ⟨vs, H2, I2, r, q2⟩ => ⟨I2.kIn, ?_⟩) hst hpl
  exact wpAny_call (run_fnRS (us := .ref a :: us) (vs := .ref a :: vs) F hr (hx σ) I2 (.cons rfl r) q2)
end
end Own

namespace Law
open PySem PySem.Spec PyProof.Rows L2
def top (i : Nat) : Stmt := PySem.Challenge.pw_rungbounds_k51_shapes_checked.main.body.getD i (.Pass ⟨0, 0, 0, 0⟩)
abbrev sBox : Stmt := top 39
abbrev sTake : Stmt := top 40
/-- the box at b: the cells in the list at l, the place, what is left of a great cell, the seed -/
def Box (H : Hp) (b l : Addr) : Prop := ∃ (ns : List Int) (i : Nat) (q s : Int), H b = some (.lst [.ref l, .int i, .int q, .int s]) ∧ H l = some (.lst (ns.map V.int)) ∧ ns.length ≤ 63
theorem Box.ne {H : Hp} {b l : Addr} (B : Box H b l) : l ≠ b := fun z => by
  obtain ⟨ns, i, q, s, h1, h2, _⟩ := B
  rw [z, h1] at h2
  have e := HO.lst.inj (Option.some.inj h2)
  cases ns with
  | nil => cases e
  | cons n ns => cases e
theorem Box.keep {H H' : Hp} {b l : Addr} (B : Box H b l) (k : ∀ c, c = b ∨ c = l → H' c = H c) : Box H' b l := by
  obtain ⟨ns, i, q, s, h1, h2, h3⟩ := B
  exact ⟨ns, i, q, s, (k b (.inl rfl)).trans h1, (k l (.inr rfl)).trans h2, h3⟩
/-- a draw: 0 ≤ r < size; nothing but the box has changed -/
def spTake : Sp := fun vs H Q _ => ∃ (b l : Addr) (n : Int), vs = [.ref b, .int n] ∧ Box H b l ∧ 0 < n ∧ n.natAbs < 2 ^ 8000 ∧
  ∀ (r : Int) (H' : Hp), 0 ≤ r → r < n → Box H' b l → (∀ c, c ≠ b → H' c = H c) → Q (.int r) H'
def spBox (K : PySem.W.Frag) : Sp := fun vs H Q _ => ∃ (a : Addr) (ns : List Int), vs = [.ref a] ∧ SqL K H a (ns.map V.int) ∧ ns.length ≤ 63 ∧
  ∀ (b l : Addr) (H' : Hp), Box H' b l → H b = none → H l = none → Same H H' → Q (.ref b) H'
structure BoxTxt (K : PySem.W.Frag) (mg : Str → Option Value) : Prop where
  len : mg "len" = none
  int : mg "int" = none
section
variable {P : Program} {w : World} {K : PySem.W.Frag} {mg : Str → Option Value} {base : Heap}
theorem scTake : FnScope ["_law_box_here", "_law_size", "_law_cell", "_law_digit"] ["_law_box_here", "_law_size"] (defScope sTake) := ⟨rfl, rfl, rfl, by decide +kernel, rfl, by decide +kernel, by decide +kernel⟩
theorem if_t {c : Bool} {A B : Prop} (hc : c = true) (h : A) : if c = true then A else B := by
  rw [hc]
  exact h
theorem if_f {c : Bool} {A B : Prop} (hc : c = false) (h : B) : if c = true then A else B := by
  rw [hc]
  exact h
theorem pow18 : CPow 10 18 := ⟨by decide, by decide, by decide⟩
theorem at_box {l : Addr} {i q s : Int} : atI [V.ref l, .int i, .int q, .int s] 0 = some (.ref l) ∧ atI [V.ref l, .int i, .int q, .int s] 1 = some (.int i) ∧ atI [V.ref l, .int i, .int q, .int s] 2 = some (.int q) ∧ atI [V.ref l, .int i, .int q, .int s] 3 = some (.int s) := ⟨rfl, rfl, rfl, rfl⟩
theorem ok_take {f : Addr} {fd : FuncData} (F : Fun K "_law_take" "_law_take" sTake f fd) (T : BoxTxt K mg) : FnOk P w K mg base CX0 1 f fd ["_law_box_here", "_law_size"] spTake := by
  refine F.ok scTake (fun vs H Q E h => ?_) (fun cdv A outer s H vs Q E hr h => ?_)
  · obtain ⟨b, l, n, rfl, _⟩ := h
    rfl
  · obtain ⟨b, l, n, rfl, B, hn0, hn1, k⟩ := h
    refine ⟨_, C8.pss_cut (ps_if (PW.pt (pw_and (pt_cmpR op_lt (pe_ix ix_list (pv 0) pe_int (fun _ _ => rfl)) pe_int (nomark _))
          (pw_and1 (pt_cmpR op_lt (pe_ix ix_list (pv 0) pe_int (fun _ _ => rfl)) (pe_callB call_len_seq (by rfl) T.len PySem.boot_len (pa_cons (pe_ix ix_list (pv 0) pe_int (fun _ _ => rfl)) pa_nil)) (nomark _)))))
        (pss_cons (ps_set (i := 2) scTake.nd rfl (Or.inl rfl) (pe_ix ix_list (pe_ix ix_list (pv 0) pe_int (fun _ _ => rfl)) (pe_ix ix_list (pv 0) pe_int (fun _ _ => rfl)) (fun _ _ => rfl)))
        (pss_cons (ps_asg (pe_op op_add (pe_ix ix_list (pv 0) pe_int (fun _ _ => rfl)) pe_int) (pg_sub (pv 0) pe_int set_list))
        (pss_one (ps_if (pt_cmpR op_ge (pv 2) (pe_op op_pow pe_int pe_int) (nomark _))
          (pss_one (ps_asg (pe_op op_sub (pv 2) (pe_op op_pow pe_int pe_int)) (pg_sub (pv 0) pe_int set_list)))
          (pss_one (ps_asg (pe_op op_mod (pe_callTy call_int1 (by rfl) T.int (by decide +kernel) (pa_cons (pe_op op_add (pe_op op_add (pe_op op_mul (pe_ix ix_list (pv 0) pe_int (fun _ _ => rfl)) pe_int) (pe_op op_mul (pv 2) pe_int)) pe_int) pa_nil)) pe_int) (pg_sub (pv 0) pe_int set_list)))))))
        pss_nil)
      (pss_cons (ps_if (pt_cmpR op_gt (pe_ix ix_list (pv 0) pe_int (fun _ _ => rfl)) pe_int (nomark _))
        (pss_cons (ps_set (i := 3) scTake.nd rfl (Or.inl rfl) (pe_op op_mod (pe_callTy call_int1 (by rfl) T.int (by decide +kernel) (pa_cons (pe_ix ix_list (pv 0) pe_int (fun _ _ => rfl)) pa_nil)) (pv 1)))
        (pss_cons (ps_asg (pe_op op_fdivW (pe_ix ix_list (pv 0) pe_int (fun _ _ => rfl)) (pv 1)) (pg_sub (pv 0) pe_int set_list))
        (pss_one (ps_ret (pv 3))))) pss_nil)
      (pss_cons (ps_asg (pe_op op_mod (pe_callTy call_int1 (by rfl) T.int (by decide +kernel) (pa_cons (pe_op op_mul (pe_ix ix_list (pv 0) pe_int (fun _ _ => rfl)) pe_int) pa_nil)) pe_int) (pg_sub (pv 0) pe_int set_list))
      (pss_one (ps_ret (pe_op op_mod (pe_callTy call_int1 (by rfl) T.int (by decide +kernel) (pa_cons (pe_op op_fdiv (pe_ix ix_list (pv 0) pe_int (fun _ _ => rfl)) pe_int) pa_nil)) (pv 1)))))), ?_⟩
    obtain ⟨ns, i, q, sd, hb, hl, h63⟩ := id B
    have hne := B.ne
    have keepB : ∀ {H' : Hp} {i' : Nat} {q' s' : Int}, H' b = some (.lst [.ref l, .int i', .int q', .int s']) → (∀ c, c ≠ b → H' c = H c) → Box H' b l :=
      fun {H' i' q' s'} h1 h2 => ⟨ns, i', q', s', h1, (h2 l hne).trans hl, h63⟩
    refine ⟨fun σ' H' => ∃ (v : Option V) (i' : Nat) (q' s' : Int), σ' = [some (.ref b), some (.int n), v, none] ∧ H' b = some (.lst [.ref l, .int i', .int q', .int s']) ∧ ∀ c, c ≠ b → H' c = H c, ?_, ?_⟩
    · -- a new cell is read, or not
      refine ⟨_, rfl, b, _, _, _, rfl, rfl, SqL.of hb, at_box.2.2.1, _, _, rfl, rfl, _, rfl, ?_⟩
      by_cases c1 : q < 1
      · refine if_t (decide_eq_true c1) ?_
        refine ⟨_, rfl, b, _, _, _, rfl, rfl, SqL.of hb, at_box.2.1, _, rfl, b, _, _, _, rfl, rfl, SqL.of hb, at_box.1, l, _, rfl, .inl (SqL.of hl), _, _, rfl, rfl, _, rfl, ?_⟩
        by_cases c2 : (i : Int) < ((ns.map V.int).length : Int)
        · refine if_t (decide_eq_true c2) ?_
          rw [List.length_map] at c2
          obtain ⟨z, hz⟩ : ∃ z, ns[i]? = some z := ⟨_, List.getElem?_eq_getElem (by omega)⟩
          have hz' : atI (ns.map V.int) (i : Int) = some (V.int z) := atI_nat (by rw [List.getElem?_map, hz]; rfl)
          refine ⟨_, rfl, b, _, _, _, rfl, rfl, SqL.of hb, at_box.1, _, rfl, b, _, _, _, rfl, rfl, SqL.of hb, at_box.2.1, l, _, _, _, rfl, rfl, SqL.of hl, hz', ?_⟩
          refine ⟨_, rfl, b, _, _, _, rfl, rfl, SqL.of hb, at_box.2.1, _, _, rfl, rfl, _, rfl, b, _, _, 1, rfl, rfl, hb, rfl, ?_⟩
          have h1 : ∀ (o : HO), upd H b o b = some o := fun o => upd_same
          have hc : ∀ (o : HO) c, c ≠ b → upd H b o c = H c := fun o c hc => upd_ne hc
          refine ⟨_, rfl, _, _, rfl, rfl, pow18, _, _, rfl, rfl, _, rfl, ?_⟩
          refine ite2 (fun _ => ?_) fun _ => ?_
          · refine ⟨_, rfl, _, _, rfl, rfl, pow18, _, _, rfl, rfl, _, rfl, b, _, _, 2, rfl, rfl, h1 _, rfl, ?_⟩
            exact ⟨some (.int z), i + 1, _, sd, rfl, upd_same, fun c hc' => by rw [upd_ne hc', upd_ne hc']⟩
          · refine ⟨_, rfl, b, _, _, _, rfl, rfl, SqL.of (h1 _), at_box.2.2.2, _, _, rfl, rfl, .inr ⟨by decide, by decide⟩, _, rfl, _, _, rfl, rfl, .inr ⟨by decide, by decide⟩, _, _, rfl, rfl, _, _, rfl, rfl, .inl ⟨_, rfl, _, _, rfl, rfl, (by show (0 : Int) < 2147483647; decide), _, rfl, b, _, _, 3, rfl, rfl, h1 _, rfl, ?_⟩⟩
            exact ⟨some (.int z), i + 1, q, _, rfl, upd_same, fun c hc' => by rw [upd_ne hc', upd_ne hc']⟩
        · refine if_f (decide_eq_false c2) ?_
          exact ⟨none, i, q, sd, rfl, hb, fun _ _ => rfl⟩
      · refine if_f (decide_eq_false c1) ?_
        exact ⟨none, i, q, sd, rfl, hb, fun _ _ => rfl⟩
    · rintro σ' H' ⟨v, i', q', s', rfl, hb', ho⟩
      refine ⟨_, rfl, b, _, _, _, rfl, rfl, SqL.of hb', at_box.2.2.1, _, _, rfl, rfl, _, rfl, ?_⟩
      refine ite2 (fun _ => ?_) fun _ => ?_
      · refine ⟨_, rfl, b, _, _, _, rfl, rfl, SqL.of hb', at_box.2.2.1, .inl ⟨_, rfl, _, rfl, _, _, rfl, rfl, hn0, ?_⟩⟩
        refine ⟨_, rfl, b, _, _, _, rfl, rfl, SqL.of hb', at_box.2.2.1, _, rfl, _, _, rfl, rfl, wide_div hn0 hn1 (by decide) (by decide), _, rfl, b, _, _, 2, rfl, rfl, hb', rfl, _, rfl, ?_⟩
        exact k _ _ (Int.emod_nonneg _ (by omega)) (Int.emod_lt_of_pos _ hn0) (keepB (q' := q' / n) upd_same fun c hc => (upd_ne hc).trans (ho c hc)) fun c hc => (upd_ne hc).trans (ho c hc)
      · refine ⟨_, rfl, b, _, _, _, rfl, rfl, SqL.of hb', at_box.2.2.2, _, _, rfl, rfl, .inr ⟨by decide, by decide⟩, .inl ⟨_, rfl, _, _, rfl, rfl, (by show (0 : Int) < 2147483647; decide), _, rfl, b, _, _, 3, rfl, rfl, hb', rfl, ?_⟩⟩
        refine ⟨_, rfl, b, _, _, _, rfl, rfl, SqL.of upd_same, at_box.2.2.2, _, _, rfl, rfl, ⟨by decide, by decide⟩, .inl ⟨_, rfl, _, rfl, _, _, rfl, rfl, hn0, ?_⟩⟩
        exact k _ _ (Int.emod_nonneg _ (by omega)) (Int.emod_lt_of_pos _ hn0) (keepB upd_same fun c hc => (upd_ne hc).trans (ho c hc)) fun c hc => (upd_ne hc).trans (ho c hc)

theorem cut63 {xs : List V} (h : xs.length ≤ 63) : cutV xs none (some 63) = xs := by
  unfold cutV
  have e0 : HT.sIx xs.length 0 none = 0 := rfl
  have e1 : HT.sIx xs.length xs.length (some 63) = xs.length := by
    unfold HT.sIx
    simp
    omega
  rw [e0, e1, List.drop_zero, Nat.sub_zero, List.take_length]
theorem scBox : FnScope ["_law_script", "_law_cell"] ["_law_script"] (defScope sBox) := ⟨rfl, rfl, rfl, by decide +kernel, rfl, by decide +kernel, by decide +kernel⟩
theorem ok_box {f : Addr} {fd : FuncData} (F : Fun K "_law_box" "_law_box" sBox f fd) (T : BoxTxt K mg) : FnOk P w K mg base CX0 1 f fd ["_law_script"] (spBox K) := by
  refine F.ok scBox (fun vs H Q E h => ?_) (fun cdv A outer s H vs Q E hr h => ?_)
  · obtain ⟨a, ns, rfl, _⟩ := h
    rfl
  · obtain ⟨a, ns, rfl, hS, h63, k⟩ := h
    refine ⟨_, pss_one (ps_ret (pe_lst (pa_cons (pe_lc (own := [("_law_cell", 1)]) (g := gName 1) (tt := tYes) (by rfl) scBox.nd (pi_list (pe_slice sl_list (pv 0) po_none (po_some pe_int)))
        (blkOk_by (own := [("_law_cell", 1)]) (N := ["_law_script", "_law_cell"]) (sc := defScope sBox) (by decide +kernel)) (fun _ _ _ _ _ => pg_name (i := 1) scBox.nd rfl (Or.inl rfl)) (fun _ _ _ _ _ => pts_nil)
        (fun _ _ _ _ _ => pe_callTy call_int1 (by rfl) T.int (by decide +kernel) (pa_cons (pv 1) pa_nil))) (pa_cons pe_int (pa_cons pe_int (pa_cons pe_int pa_nil)))))), ?_⟩
    have e63 : cutV (ns.map V.int) none (some 63) = ns.map V.int := cut63 (by rw [List.length_map]; exact h63)
    refine ⟨_, rfl, 63, rfl, a, _, rfl, hS, fun p hp => ?_⟩
    rw [e63]
    refine ⟨p, rfl, ⟨_, SqL.of upd_same⟩, fun D hD => ?_⟩
    have hpD : p ≠ D := fun z => by
      rw [z, upd_same] at hD
      cases hD
    have hD0 : H D = none := by rw [upd_ne (Ne.symm hpD)] at hD; exact hD
    refine lc_list (K := K) (a := p) (xs := ns.map V.int) (fun i H' => H' D = some (.lst ((ns.take i).map V.int)) ∧ H' p = some (.lst (ns.map V.int)) ∧ ∀ c, c ≠ D → c ≠ p → H' c = H c)
      ⟨upd_same, by rw [upd_ne hpD, upd_same], fun c h1 h2 => by rw [upd_ne h1, upd_ne h2]⟩ (fun i H' _ h => SqL.of h.2.1) ?_ ?_
    · rintro i y H' hi ⟨g1, g2, g3⟩
      obtain ⟨z, hz, rfl⟩ : ∃ z, ns[i]? = some z ∧ y = V.int z := by
        rw [List.getElem?_map] at hi
        cases e : ns[i]? with
        | none =>
          rw [e] at hi
          cases hi
        | some z =>
          rw [e] at hi
          exact ⟨z, rfl, (Option.some.inj hi).symm⟩
      refine ⟨rfl, ?_⟩
      have step : ∃ acc, H' D = some (.lst acc) ∧ acc.length < sizeLine ∧ (upd H' D (.lst (acc ++ [V.int z]))) D = some (.lst ((ns.take (i + 1)).map V.int)) ∧ (upd H' D (.lst (acc ++ [V.int z]))) p = some (.lst (ns.map V.int)) ∧
          ∀ c, c ≠ D → c ≠ p → (upd H' D (.lst (acc ++ [V.int z]))) c = H c := by
        refine ⟨_, g1, ?_, ?_⟩
        · rw [List.length_map, List.length_take]
          exact small1000 (by omega)
        · refine ⟨?_, by rw [upd_ne hpD]; exact g2, fun c h1 h2 => by rw [upd_ne h1]; exact g3 c h1 h2⟩
          rw [upd_same, List.take_succ, hz, Option.toList_some, List.map_append]
          rfl
      exact ⟨V.int z, rfl, .inl ⟨z, rfl, step⟩⟩
    · rintro H' ⟨g1, g2, g3⟩
      rw [List.length_map, List.take_length] at g1
      refine ⟨(by show 4 ≤ sizeLine; decide), fun b hb => ?_⟩
      have hDb : D ≠ b := ne_of_none g1 hb
      have hpb : p ≠ b := ne_of_none g2 hb
      refine k b D _ ⟨ns, 0, 0, 0, upd_same, by rw [upd_ne hDb]; exact g1, h63⟩ (by rw [← g3 b (Ne.symm hDb) (Ne.symm hpb)]; exact hb) hD0 fun c o hc => ?_
      have n1 : c ≠ D := ne_of_none hc hD0
      have n2 : c ≠ p := ne_of_none hc hp
      have n3 : c ≠ b := fun z => by
        rw [z, ← g3 b (Ne.symm hDb) (Ne.symm hpb), hb] at hc
        cases hc
      rw [upd_ne n3, g3 c n1 n2]
      exact hc
end
end Law



namespace Law
open PySem PySem.Spec PyProof.Rows L2 Sup
abbrev sErr : Stmt := inClass (top 3) 0
abbrev sChk : Stmt := top 13
/-- the way out by BadNumber -/
def Bad (C : Addr) (E : XK) (H : Hp) (v : Int) : Prop := ∀ d, H d = none → E (.ref C) (some d) (upd H d (.xd [("value", .int v)]))
def spChk (C : Addr) : Sp := fun vs H Q E => ∃ i : Int, vs = [.int i] ∧ i.natAbs < 2 ^ 1000 ∧ (i < 0 → Bad C E H i) ∧ (0 ≤ i → Q .non H)
theorem log_of {i : Int} {k : Nat} (hk : 0 < k) (h : i.natAbs < 2 ^ k) : i.natAbs.log2 < k := by
  by_cases hz : i.natAbs = 0
  · rw [hz, Nat.log2_zero]
    exact hk
  · exact (Nat.log2_lt hz).mpr h
section
variable {P : Program} {w : World} {K : PySem.W.Frag} {mg : Str → Option Value} {base : Heap} {C : Addr}
theorem scChk : FnScope ["number"] ["number"] (defScope sChk) := ⟨rfl, rfl, rfl, by decide +kernel, rfl, by decide +kernel, by decide +kernel⟩
theorem ok_chk {f : Addr} {fd : FuncData} (F : Fun K "check_not_negative" "check_not_negative" sChk f fd) (R : ErrOk P w K mg base "BadNumber" C "value" okInt) : FnOk P w K mg base (L2.CX P w) 4 f fd ["number"] (spChk C) := by
  refine F.okX scChk (fun vs H Q E h => ?_) (fun cdv A outer s H vs Q E hr h => ?_)
  · obtain ⟨i, rfl, _⟩ := h
    rfl
  · obtain ⟨i, rfl, hi, h1, h2⟩ := h
    refine ⟨_, pss_one (ps_if (pt_cmpR op_lt (pv 0) pe_int (nomark _)) (pss_one (ps_err R rfl (takes_of rfl rfl rfl rfl) hr (pa_cons (pv 0) pa_nil) rfl)) pss_nil), ?_⟩
    refine ⟨_, rfl, _, _, rfl, rfl, _, rfl, ?_⟩
    by_cases c : i < 0
    · refine if_t (decide_eq_true c) ⟨_, rfl, err_way ⟨i, rfl, log_of (by decide) (Nat.lt_of_lt_of_le hi (Nat.pow_le_pow_right (by decide) (by decide)))⟩ (h1 c)⟩
    · exact if_f (decide_eq_false c) (h2 (by omega))
end
def Sz (i : Int) : Prop := i.natAbs < 2 ^ 200
theorem Sz.mul {a b : Int} (ha : a.natAbs < 2 ^ 300) (hb : b.natAbs < 2 ^ 300) : CMulW a b := wide_mul ha hb (by decide) (by decide) (by decide)
theorem Sz.w {a : Int} (ha : Sz a) : a.natAbs < 2 ^ 300 := Nat.lt_of_lt_of_le ha (Nat.pow_le_pow_right (by decide) (by decide))
theorem Sz.t {a : Int} (ha : Sz a) : a.natAbs < 2 ^ 1000 := Nat.lt_of_lt_of_le ha (Nat.pow_le_pow_right (by decide) (by decide))
theorem Sz.of {i : Int} (h : i.natAbs ≤ 10 ^ 42) : Sz i := Nat.lt_of_le_of_lt h (by decide +kernel)
theorem pow_ok {j : Int} (h : 0 ≤ j ∧ j ≤ 1000000) : CPow 10 j := ⟨h.1, h.2, by decide⟩
theorem size_fit {n : Int} (h0 : 0 < n) (h : n ≤ 10 ^ 40) : n.natAbs < 2 ^ 8000 := by
  have h1 : n.natAbs ≤ 10 ^ 40 := by omega
  exact Nat.lt_of_le_of_lt h1 (by decide +kernel)
end Law

/-! Names, errors and the defs that check a name: for programs without a rack. -/
namespace Law
open PySem PySem.Spec PyProof.Rows L2 Sup
abbrev sCkn : Stmt := top 12
def letters : Str := "abcdefghijklmnopqrstuvwxyz"
/-- a name that breaks the rule for names -/
def badN (y : Str) : Bool := decide (y.length < 1) || decide (12 < y.length) || y.cps.toList.any fun c => !decide (c ∈ letters.cps.toList)
/-- a text that errors may tell -/
def Fit (y : Str) : Prop := y.length ≤ 60 ∧ ∀ c ∈ y.cps.toList, c < 1114112
theorem Fit.ok {y : Str} (h : Fit y) : okTxt (.str y) := ⟨y, rfl, by
  have := StrLaws.reprText_len y fun c hc => Nat.lt_of_lt_of_le (h.2 c hc) (by decide)
  have := h.1
  omega⟩
/-- the way out by an own error with one field, from a heap in which all stands as it stood -/
def BadX (C : Addr) (fl : Str) (E : XK) (H : Hp) (v : V) : Prop := ∀ (H' : Hp) (d : Addr), Same H H' → H' d = none → E (.ref C) (some d) (upd H' d (.xd [(fl, v)]))
abbrev Row := Str × Int
def known (rows : List Row) (y : Str) : Bool := (rows.map (·.1)).contains y
structure Errs where
  N : Addr
  T : Addr
  B : Addr
  M : Addr
  U : Addr
  P : Addr
  S : Addr
def spCkn (C : Errs) : Sp := fun vs H Q E => ∃ y : Str, vs = [.str y] ∧ Fit y ∧ (badN y = true → BadX C.N "name" E H (.str y)) ∧ (badN y = false → Q .non H)
structure NameTxt (K : PySem.W.Frag) (mg : Str → Option Value) : Prop where
  letters : ∃ t, mg "LETTERS" = some (.str letters t)
  longest : ∃ t, mg "LONGEST_NAME" = some (.int 12 t)
  len : mg "len" = none
section
variable {P : Program} {w : World} {K : PySem.W.Frag} {mg : Str → Option Value} {base : Heap} {C : Errs}
theorem scCkn : FnScope ["name", "letter"] ["name"] (defScope sCkn) := ⟨rfl, rfl, rfl, by decide +kernel, rfl, by decide +kernel, by decide +kernel⟩
theorem ok_ckn {f : Addr} {fd : FuncData} (F : Fun K "check_name" "check_name" sCkn f fd) (RN : ErrOk P w K mg base "BadName" C.N "name" okTxt) (T : NameTxt K mg) : FnOk P w K mg base (L2.CX P w) 4 f fd ["name"] (spCkn C) := by
  obtain ⟨t1, T1⟩ := T.letters
  obtain ⟨t2, T2⟩ := T.longest
  refine F.okX scCkn (fun vs H Q E h => ?_) (fun cdv A outer s H vs Q E hr h => ?_)
  · obtain ⟨y, rfl, _⟩ := h
    rfl
  · obtain ⟨y, rfl, fy, h1, h2⟩ := h
    have hr3 : Room 3 _ := hr
    refine ⟨_, (pss_cons (ps_if (pt_not (pt_chain op_le op_le pe_int (pe_callB call_len_str (by rfl) T.len PySem.boot_len (pa_cons (pv 0) pa_nil)) (pe_glob (v := .int 12) rfl T2 ⟨_, rfl⟩))) (pss_one (ps_err RN rfl (takes_of rfl rfl rfl rfl) hr3 (pa_cons (pv 0) pa_nil) rfl)) pss_nil)
      (pss_one (ps_for (passes_of rfl) rfl (pi_str (pv 0)) (pg_name (i := 1) scCkn.nd rfl (Or.inl rfl)) (pss_one (ps_if (pt_cmpR op_notIn_sign (pv 1) (pe_glob (v := .str letters) rfl T1 ⟨_, rfl⟩) rfl) (pss_one (ps_err RN rfl (takes_of rfl rfl rfl rfl) hr3 (pa_cons (pv 0) pa_nil) rfl)) pss_nil))))), ?_⟩
    have way : badN y = true → okTxt (.str y) ∧ ∀ d, H d = none → E (.ref C.N) (some d) (upd H d (.xd [("name", .str y)])) := fun hb => ⟨fy.ok, fun d hd => h1 hb H d (fun _ _ e => e) hd⟩
    refine ⟨_, rfl, y, rfl, by have := fy.1; rw [sizeLine_eq]; omega, _, _, rfl, rfl, _, rfl, ?_⟩
    by_cases c0 : (1 : Int) ≤ (y.length : Int)
    · refine if_t (decide_eq_true c0) ⟨_, _, rfl, rfl, _, rfl, ?_⟩
      by_cases c1 : (y.length : Int) ≤ 12
      · refine if_f (by rw [decide_eq_true c1]; rfl) ?_
        have e0 : decide (y.length < 1) = false := decide_eq_false (by omega)
        have e1 : decide (12 < y.length) = false := decide_eq_false (by omega)
        refine ⟨_, rfl, y, rfl, for_it walk_str (fun i σ' H' => ∃ v : Option V, σ' = [some (.str y), v] ∧ H' = H ∧ (y.cps.toList.take i).any (fun c => !decide (c ∈ letters.cps.toList)) = false) ⟨_, rfl, rfl, by simp⟩ (fun _ _ _ _ _ => True.intro) ?_ ?_⟩
        · rintro i x σ' H' H'' hi ⟨v, rfl, rfl, ha⟩ ⟨rfl, c, hc, rfl⟩
          have hc' : y.cps.toList[i]? = some c := by rw [← hc]; simp
          refine ⟨_, rfl, c, letters, rfl, rfl, _, rfl, ?_⟩
          by_cases cl : c ∈ letters.cps.toList
          · refine if_f (by rw [decide_eq_true cl]; rfl) ⟨_, rfl, rfl, ?_⟩
            rw [List.take_succ, hc', Option.toList_some, List.any_append, ha, List.any_cons, decide_eq_true cl]
            rfl
          · refine if_t (by rw [decide_eq_false cl]; rfl) ⟨_, rfl, ?_⟩
            obtain ⟨z1, z2⟩ := way (by
              unfold badN
              have : y.cps.toList.any (fun c => !decide (c ∈ letters.cps.toList)) = true := List.any_eq_true.mpr ⟨c, List.mem_of_getElem? hc', by simp [cl]⟩
              rw [this, Bool.or_true])
            exact err_way z1 z2
        · rintro σ' H' ⟨v, rfl, rfl, ha⟩
          refine h2 ?_
          unfold badN
          rw [e0, e1]
          rw [List.take_of_length_le (by simp)] at ha
          rw [ha]
          rfl
      · refine if_t (by rw [decide_eq_false c1]; rfl) ⟨_, rfl, ?_⟩
        obtain ⟨z1, z2⟩ := way (by
          unfold badN
          rw [decide_eq_true (show 12 < y.length by omega), Bool.or_true, Bool.true_or])
        exact err_way z1 z2
    · refine if_f (decide_eq_false c0) ⟨_, rfl, ?_⟩
      refine if_t rfl ⟨_, rfl, ?_⟩
      obtain ⟨z1, z2⟩ := way (by
        unfold badN
        rw [decide_eq_true (show y.length < 1 by omega), Bool.true_or, Bool.true_or])
      exact err_way z1 z2
end
end Law


/-! What the law's own defs of several laws want: comprehensions told by a function, draws, texts as data. -/
namespace Law
open PySem PySem.Spec PyProof.Rows L2
def SameB (b : Addr) (H H' : Hp) : Prop := ∀ c o, c ≠ b → H c = some o → H' c = some o
theorem SameB.of {b : Addr} {H H' : Hp} (k : ∀ c, c ≠ b → H' c = H c) : SameB b H H' := fun c o n e => (k c n).trans e
theorem SameB.trans {b : Addr} {H H1 H2 : Hp} (s : SameB b H H1) (t : SameB b H1 H2) : SameB b H H2 := fun c o n e => t c o n (s c o n e)
theorem SameB.of_same {b : Addr} {H H' : Hp} (s : Same H H') : SameB b H H' := fun c o _ e => s c o e
theorem same_tr {H H1 H2 : Hp} (s : Same H H1) (t : Same H1 H2) : Same H H2 := fun c o e => t c o (s c o e)
theorem same_rfl {H : Hp} : Same H H := fun _ _ e => e
theorem Room.u65 {k : Nat} {A : Around} (r : Room k A) : A.units + 65 < cLine := by have := r.un; omega
theorem Box.free {H : Hp} {b l d : Addr} (B : Box H b l) (h : H d = none) : b ≠ d ∧ l ≠ d := by
  obtain ⟨ns, i, q, s, h1, h2, _⟩ := B
  exact ⟨ne_of_none h1 h, ne_of_none h2 h⟩
theorem Box.at {H : Hp} {b l d : Addr} {o : HO} (B : Box H b l) (n : b ≠ d ∧ l ≠ d) : Box (upd H d o) b l := B.keep fun c hc => by
  rcases hc with rfl | rfl
  · exact upd_ne n.1
  · exact upd_ne n.2
theorem Box.same {H H' : Hp} {b l : Addr} (B : Box H b l) (s : Same H H') : Box H' b l := by
  obtain ⟨ns, i, q, s', h1, h2, h3⟩ := B
  exact ⟨ns, i, q, s', s _ _ h1, s _ _ h2, h3⟩
theorem Box.neT {H : Hp} {b l c : Addr} {xs : List V} (B : Box H b l) (h : H c = some (.tup xs)) : c ≠ b := fun z => by
  obtain ⟨_, _, _, _, q, _⟩ := B
  rw [z, q] at h
  cases h
theorem Box.neD {H : Hp} {b l c : Addr} {kv : List (Key × V)} (B : Box H b l) (h : H c = some (.dK kv)) : c ≠ b ∧ c ≠ l := by
  obtain ⟨_, _, _, _, q, q2, _⟩ := B
  exact ⟨fun z => (by rw [z, q] at h; cases h), fun z => (by rw [z, q2] at h; cases h)⟩
theorem Box.neI {H : Hp} {b l c C dx : Addr} {fs : List (Str × V)} (B : Box H b l) (h : H c = some (.ins C dx fs)) : c ≠ b ∧ c ≠ l := by
  obtain ⟨_, _, _, _, q, q2, _⟩ := B
  exact ⟨fun z => (by rw [z, q] at h; cases h), fun z => (by rw [z, q2] at h; cases h)⟩
theorem same_new {H : Hp} {p : Addr} {o : HO} (h : H p = none) : Same H (upd H p o) := fun b o' e => by
  rw [upd_ne (ne_of_none e h)]
  exact e
theorem none_back {H H' : Hp} {x : Addr} (s : Same H H') (h : H' x = none) : H x = none := by
  cases e : H x with
  | none => rfl
  | some o =>
    have z := s _ _ e
    rw [h] at z
    cases z
/-- within a comprehension whose turn i adds out i (or nothing), all else new -/
def LcP (D : Addr) (H1 : Hp) (out : Nat → Option V) (i : Nat) (H : Hp) : Prop := H D = some (.lst ((List.range i).filterMap out)) ∧ Same H1 H
section
variable {D : Addr} {H1 H H4 : Hp} {out : Nat → Option V} {i : Nat} {y : V}
theorem LcP.start (hD : H1 D = none) : LcP D H1 out 0 (upd H1 D (.lst [])) := ⟨upd_same, same_new hD⟩
theorem fm_len (i : Nat) : ((List.range i).filterMap out).length ≤ i := by
  have := List.length_filterMap_le out (List.range i)
  rw [List.length_range] at this
  exact this
theorem fm_succ : (List.range (i + 1)).filterMap out = (List.range i).filterMap out ++ (out i).toList := by
  rw [List.range_succ, List.filterMap_append]
  cases e : out i <;> simp [e]
theorem LcP.push (h : LcP D H1 out i H) (hD : H1 D = none) (s : Same H H4) (ho : out i = some y) (hi : i < 1000) :
    ∃ acc, H4 D = some (.lst acc) ∧ acc.length < sizeLine ∧ LcP D H1 out (i + 1) (upd H4 D (.lst (acc ++ [y]))) := by
  refine ⟨_, s _ _ h.1, small1000 (Nat.le_of_lt (Nat.lt_of_le_of_lt (fm_len i) hi)), ?_, fun b o e => ?_⟩
  · rw [upd_same, fm_succ, ho]
    rfl
  · rw [upd_ne (ne_of_none e hD)]
    exact s _ _ (h.2 _ _ e)
theorem LcP.skip (h : LcP D H1 out i H) (s : Same H H4) (ho : out i = none) : LcP D H1 out (i + 1) H4 := by
  refine ⟨?_, same_tr h.2 s⟩
  rw [fm_succ, ho, s _ _ h.1]
  simp
end
theorem range_fm {α β : Type} (f : α → Option β) (xs : List α) : (List.range xs.length).filterMap (fun i => xs[i]?.bind f) = xs.filterMap f := by
  induction xs with
  | nil => rfl
  | cons x xs ih =>
    rw [List.length_cons, List.range_succ_eq_map, List.filterMap_cons, List.filterMap_map, List.filterMap_cons]
    have e : (fun i => (x :: xs)[i]?.bind f) ∘ Nat.succ = fun i => xs[i]?.bind f := by
      funext i
      simp
    rw [e, ih]
    simp
theorem range_id {α : Type} (xs : List α) : (List.range xs.length).filterMap (fun i : Nat => xs[i]?) = xs := by
  have e := range_fm (some : α → Option α) xs
  have e1 : (fun i : Nat => xs[i]?.bind some) = fun i : Nat => xs[i]? := by
    funext i
    cases xs[i]? <;> rfl
  rw [e1] at e
  rw [e]
  simp
theorem fm_any {α β : Type} (p : α → Bool) (f : α → β) (xs : List α) : decide ((0 : Int) < (((xs.filterMap fun c => if p c = true then none else some (f c)).length : Nat) : Int)) = xs.any fun c => !p c := by
  induction xs with
  | nil => rfl
  | cons x xs ih =>
    rw [List.filterMap_cons, List.any_cons, ← ih]
    cases h : p x with
    | true => simp
    | false =>
      simp
theorem at_nat {xs : List V} {j : Nat} {v : V} (h : xs[j]? = some v) : atI xs (j : Int) = some v := atI_nat h
/-! texts as data -/
theorem ok_str {y : Str} (h : ∀ c ∈ y.cps.toList, c < 1114112) : PyData.canLay0 (.str y) = true := by
  have e : PyData.canLay0 (.str y) = PyData.strOk y := by simp only [PyData.canLay0]
  rw [e]
  unfold PyData.strOk
  rw [← Array.all_toList, List.all_eq_true]
  intro c hc
  exact decide_eq_true (h c hc)
theorem ok_strs : ∀ {ys : List Str}, (∀ y ∈ ys, ∀ c ∈ y.cps.toList, c < 1114112) → PyData.canLayAll0 (ys.map PyData.str) = true
  | [], _ => by simp only [List.map_nil, PyData.canLayAll0]
  | y :: ys, h => by
    rw [List.map_cons]
    simp only [PyData.canLayAll0]
    rw [Bool.and_eq_true]
    exact ⟨ok_str (h y List.mem_cons_self), ok_strs fun x hx => h x (List.mem_cons_of_mem _ hx)⟩
theorem deep_strs : ∀ ys : List Str, PyData.depthAll (ys.map PyData.str) = 0
  | [] => by simp [PyData.depthAll]
  | y :: ys => by
    rw [List.map_cons]
    simp [PyData.depthAll, PyData.depth, deep_strs ys]
theorem shaped_str {y : Str} (h : ∀ c ∈ y.cps.toList, c < 1114112) : SeqAt.shaped (.str y) = true := by
  unfold SeqAt.shaped
  rw [ok_str h]
  simp [PyData.depth]
theorem shaped_strs {ys : List Str} (h : ∀ y ∈ ys, ∀ c ∈ y.cps.toList, c < 1114112) : SeqAt.shaped (.list (ys.map PyData.str)) = true := by
  unfold SeqAt.shaped
  have e : PyData.canLay0 (.list (ys.map PyData.str)) = true := by
    simp only [PyData.canLay0]
    exact ok_strs h
  rw [e]
  simp [PyData.depth, deep_strs]
theorem dp_strs {K : PySem.W.Frag} {H : Hp} : ∀ ys : List Str, DpAll K H (ys.map V.str) (ys.map PyData.str)
  | [] => .nil
  | _ :: ys => .cons (.str _) (dp_strs ys)
theorem any_strs (ys : List Str) (y : Str) : ((ys.map PyData.str).any fun z => PyData.eqv z (.str y)) = ys.contains y := by
  induction ys with
  | nil => rfl
  | cons x ys ih =>
    rw [List.map_cons, List.any_cons, ih, List.contains_cons]
    have e : PyData.eqv (.str x) (.str y) = (y == x) := by
      simp only [PyData.eqv]
      by_cases h : x = y
      · subst h
        rfl
      · have h1 : (x == y) = false := by simpa using h
        have h2 : (y == x) = false := by simpa using fun z => h z.symm
        rw [h1, h2]
    rw [e]
/-- two shaped data that are told the same are equal -/
theorem eqv_rfl {d : PyData} (h : SeqAt.shaped d = true) : PyData.eqv d d = true := SeqAt.eqv_refl _ (SeqAt.canLay_of_shaped h)
theorem shaped_pair {a b : PyData} (ha : PyData.canLay0 a = true) (hb : PyData.canLay0 b = true) (da : PyData.depth a = 0) (db : PyData.depth b = 0) : SeqAt.shaped (.tuple [a, b]) = true := by
  unfold SeqAt.shaped
  have e : PyData.canLay0 (.tuple [a, b]) = true := by
    simp only [PyData.canLay0, PyData.canLayAll0, ha, hb]
    rfl
  rw [e]
  simp [PyData.depth, PyData.depthAll, da, db]
/-! texts joined without a separator, and cut -/
theorem joinL_mem : ∀ {ls : List (List Nat)} {c : Nat}, c ∈ TL.joinL [] ls → ∃ x ∈ ls, c ∈ x
  | [], c, h => by cases h
  | [p], c, h => ⟨p, List.mem_cons_self, h⟩
  | p :: q :: r, c, h => by
    rcases List.mem_append.mp h with h | h
    · exact ⟨p, List.mem_cons_self, h⟩
    · obtain ⟨x, hx, hc⟩ := joinL_mem (ls := q :: r) h
      exact ⟨x, List.mem_cons_of_mem _ hx, hc⟩
theorem joinL_len : ∀ (ls : List (List Nat)), (TL.joinL [] ls).length = (ls.map List.length).sum
  | [] => rfl
  | [p] => by simp [TL.joinL]
  | p :: q :: r => by
    show (p ++ ([] ++ TL.joinL [] (q :: r))).length = _
    rw [List.nil_append, List.length_append, joinL_len (q :: r)]
    rfl
theorem join_cps (ys : List Str) : (Txt.join "" ys).cps.toList = TL.joinL [] (ys.map fun y => y.cps.toList) := by
  have e := TL.tl_join ("" : Str) ys
  have e2 : Txt.join "" ys = Str.join "" ys := TL.join_eq _ _
  rw [e2]
  exact e
theorem cut_mem {z : Str} {lo hi : Option Int} {c : Nat} (h : c ∈ (cutS z lo hi).cps.toList) : c ∈ z.cps.toList := by
  unfold cutS at h
  exact List.mem_of_mem_drop (List.mem_of_mem_take (by simpa using h))
theorem cut_len {z : Str} {lo hi : Option Int} : (cutS z lo hi).length ≤ z.length := by
  show (((z.cps.toList.drop _).take _).toArray).size ≤ z.cps.size
  simp
  omega
theorem cps_app (a b : Str) : (a ++ b).cps.toList = a.cps.toList ++ b.cps.toList := TL.tl_append a b
end Law

namespace Law
open PySem PySem.Spec PyProof.Rows L2
/-- the law's own rows: a list of tuples -/
def RowsAt (H : Hp) (l : Addr) (rows : List Row) : Prop := ∃ ts : List Addr, H l = some (.lst (ts.map V.ref)) ∧ ts.length = rows.length ∧ ∀ (i : Nat) (t : Addr) (y : Str) (L : Int), ts[i]? = some t → rows[i]? = some (y, L) → H t = some (.tup [.str y, .int L])
theorem RowsAt.same {H H' : Hp} {l : Addr} {rows : List Row} (h : RowsAt H l rows) (s : Same H H') : RowsAt H' l rows := by
  obtain ⟨ts, h1, h2, h3⟩ := h
  exact ⟨ts, s _ _ h1, h2, fun i t y L e1 e2 => s _ _ (h3 i t y L e1 e2)⟩
theorem RowsAt.neB {H : Hp} {l b l0 : Addr} {rows : List Row} (h : RowsAt H l rows) (B : Box H b l0) : l ≠ b := fun z => by
  obtain ⟨ts, h1, _⟩ := h
  obtain ⟨_, _, _, _, q, _⟩ := B
  rw [z, q] at h1
  have e := HO.lst.inj (Option.some.inj h1)
  match ts, e with
  | [], e => cases e
  | [_], e => cases e
  | _ :: _ :: _, e =>
    rw [List.map_cons, List.map_cons] at e
    injection e with _ e
    injection e with e _
    cases e
theorem RowsAt.sameB {H H' : Hp} {l b l0 : Addr} {rows : List Row} (h : RowsAt H l rows) (B : Box H b l0) (s : SameB b H H') : RowsAt H' l rows := by
  have n := h.neB B
  obtain ⟨ts, h1, h2, h3⟩ := h
  exact ⟨ts, s _ _ n h1, h2, fun i t y L e1 e2 => s _ _ (B.neT (h3 i t y L e1 e2)) (h3 i t y L e1 e2)⟩
theorem RowsAt.len {H : Hp} {l : Addr} {rows : List Row} (h : RowsAt H l rows) : ∃ xs, H l = some (.lst xs) ∧ xs.length = rows.length := by
  obtain ⟨ts, h1, h2, _⟩ := h
  exact ⟨_, h1, by rw [List.length_map, h2]⟩
theorem RowsAt.at {H : Hp} {l : Addr} {rows : List Row} {i : Nat} {y : Str} {L : Int} (h : RowsAt H l rows) (e : rows[i]? = some (y, L)) : ∃ xs t, H l = some (.lst xs) ∧ xs[i]? = some (.ref t) ∧ H t = some (.tup [.str y, .int L]) := by
  obtain ⟨ts, h1, h2, h3⟩ := h
  have hi : i < rows.length := (List.getElem?_eq_some_iff.mp e).1
  have hi' : i < ts.length := by omega
  exact ⟨_, ts[i], h1, by rw [List.getElem?_map, List.getElem?_eq_getElem hi']; rfl, h3 i _ y L (List.getElem?_eq_getElem hi') e⟩
end Law

/-! for (a, b), c in d.items(), d with tuple keys: the key's own tuple and the value, in a new pair. -/
namespace DTX
open PySem PySem.Spec PyProof.Rows L2
section
variable {X : Cx} {pins : List (Addr × Obj)} {σ : L2.St} {H : Hp} {s : Shared} {d : Addr} {o : Obj}
theorem frzT {kvs : List (List Key × V)} (I : Inv X pins σ H s) (h : H d = some (.frz o (.dT kvs))) :
    (d == sysModules) = false ∧ s.heap.get? d = some o ∧ o.ExactDict ∧ ∃ (es : Array DictEntry) (ep : Nat), o.data = .dict es ep ∧ es.size = kvs.length ∧
      ∀ (i : Nat) (k : List Key) (v : V), kvs[i]? = some (k, v) → ∃ (en : DictEntry) (q : Addr), es[i]? = some en ∧ en.key = .ref q ∧ H q = some (.tup (k.map kV)) ∧ RelV v en.val := by
  obtain ⟨hd, z, hs, xs, pr, o', es, ep, ho, hx, hdt, he, _⟩ := I.hok d _ h
  rw [hd] at ho
  cases ho
  refine ⟨hs, hd, hx, es, ep, hdt, ?_, fun i k v e => ?_⟩
  · have l1 : es.size = xs.length := size_of_entries he
    have l2 : kvs.length = xs.length := Paired.length pr
    omega
  · obtain ⟨b, hb, e1, e2, e3⟩ := L2.paired_get pr e
    have q := entry_at he i
    rw [hb] at q
    exact ⟨_, b.2.1, q, rfl, e2, e3⟩
end
def Itit (d : Addr) (o : Obj) (kvs : List (List Key × V)) : It :=
  ⟨fun i H => H d = some (.frz o (.dT kvs)) ∧ i < kvs.length, fun i H x H' => ∃ T q k v, kvs[i]? = some (k, v) ∧ x = .ref T ∧ H q = some (.tup (k.map kV)) ∧ H T = none ∧ H' = upd H T (.tup [.ref q, v]), fun i H => H d = some (.frz o (.dT kvs)) ∧ kvs.length ≤ i⟩
theorem turn_itemsT {P : Program} {w : World} {K : PySem.W.Frag} {d : Addr} {o : Obj} {es : Array DictEntry} {ep : Nat} {kvs : List (List Key × V)} {elts : List Expr} {kk : Nat} {tpos : Pos} (it : Addr) (hod : o.data = .dict es ep) :
    Turn P w K (.Tuple elts kk tpos) (Itit d o kvs) [it] it (fun i h => ∃ ok ov, IsItemIter h it d i kvs.length ep ok ov) where
  mem := by simp
  obj := fun i h st b hb => by
    have e : b = it := by simpa using hb
    subst e
    obtain ⟨ok, ov, e⟩ := st
    exact ⟨_, e, fun v z => nomatch z⟩
  keep := fun i h h' st k => let ⟨ok, ov, e⟩ := st; ⟨ok, ov, k it (by simp) _ e⟩
  item := by
    intro X hP hw hK hc i pins s σ H E I hf st hg
    subst hP hw hK
    obtain ⟨hd, hi⟩ := hg
    obtain ⟨hs, hgd, hx, es', ep', hdt, hsz, ent⟩ := frzT I hd
    obtain ⟨rfl, rfl⟩ := dict_ep hod hdt
    obtain ⟨⟨k, v⟩, hkv⟩ : ∃ p, kvs[i]? = some p := ⟨kvs[i], List.getElem?_eq_getElem hi⟩
    obtain ⟨en, q, hen, hkey, hq, ru⟩ := ent i k v hkv
    obtain ⟨ok, ov, he⟩ := st
    rw [← hsz] at he
    have hlt : it < s.heap.objs.size := Heap.lt_size he
    have hie : i < es'.size := by omega
    have een : es'[i] = en := by
      rw [Array.getElem?_eq_getElem hie] at hen
      exact Option.some.inj hen
    refine DT.nextI he ⟨o, hgd, hx, hdt⟩ hie fun h' ho hT hz hk => ?_
    rw [een] at ho hT
    rw [hkey] at ho hT
    refine ⟨_, rfl, wpAny_letOwnedTupleGo_items (s := { s with heap := h' }) ho fun h'' he' sb => ?_⟩
    have hT2 : h''.get? s.heap.objs.size = some { cls := .type "tuple", data := .seq #[.ref q, en.val] } := (sb.2 _ (Nat.ne_of_gt hlt)).trans hT
    have new : ObjOk X.prog X.w (upd H s.heap.objs.size (.tup [.ref q, v])) h'' s.heap.objs.size (.tup [.ref q, v]) :=
      ⟨by show 2 ≤ sizeLine; decide, [.ref q, en.val], .cons rfl (.cons ru .nil), ⟨_, hT2, rfl, _, rfl⟩⟩
    have I1 : Inv X pins σ (upd H s.heap.objs.size (.tup [.ref q, v])) { s with heap := h'' } :=
      I.turnedNew (t' := s.toks) (ch := [it]) (fun b ob hb e => (sb.2 b (by simpa using hb)).trans (hk b ob (by simpa using hb) e)) hf (Nat.le_refl _) new
    refine ⟨.ref s.heap.objs.size, _, I1, rfl, ⟨_, q, k, v, hkv, rfl, hq, I.hok.fresh (Nat.le_refl _), rfl⟩, ⟨.ref q, en.val, ?_⟩, fun b hb => ?_⟩
    · rw [← hsz]; exact he'
    · have e : b = it := by simpa using hb
      rw [e, upd_ne (Nat.ne_of_lt hlt)]
      exact (hf it (by simp)).1
  done := by
    intro X hP hw hK hc i pins s σ H E I hf st hg
    subst hP hw hK
    obtain ⟨hd, hi⟩ := hg
    obtain ⟨f0, f1, f2, f3, f4, f5⟩ := hf it (by simp)
    obtain ⟨hs, hgd, hx, es', ep', hdt, hsz, ent⟩ := frzT I hd
    obtain ⟨rfl, rfl⟩ := dict_ep hod hdt
    obtain ⟨ok, ov, he⟩ := st
    rw [← hsz] at he
    exact DT.endI (I.ok.hd hc) he ⟨o, hgd, hx, hdt⟩ (by omega) fun h' eb => ⟨rfl, I.turned (t' := s.toks) (fun b ob hb e => eb b ob hb e) f0 f1 f3 f4 f5⟩
  self := fun A i s Q E st h => let ⟨_, _, e⟩ := st; PySem.W.kcp_self e h
def iItemsT (td : TE) : TI := fun σ H R => td σ H fun x H1 => ∃ d o kvs, x = .ref d ∧ H1 d = some (.frz o (.dT kvs)) ∧ R (Itit d o kvs) H1
theorem pi_itemsT {X : Cx} {e : Expr} {td : TE} {apos cpos : Pos} {elts : List Expr} {kk : Nat} {tpos : Pos} (he : PE X e td) (hbase : attributeBase e "items" X.env (eval e X.env) = eval e X.env := by rfl) (hline : (apos.endLine == cpos.line) = true := by rfl) :
    PI X (.Tuple elts kk tpos) (.Call (.Attribute e "items" apos) [] [] cpos) (iItemsT td) := by
  refine ⟨fun pins s σ H R I h => ?_⟩
  refine wpAny_Call_method (T := "dict") (id := "dict.items") hbase rfl hline F.plainAttrs_dict F.slot_dict_items F.type_dict_items (thn (he.run pins s σ H _ I h) fun u s1 ⟨x, H1, I1, rx, d, o, kvs, ex, hd, q⟩ => ?_)
  subst ex
  obtain rfl : u = Value.ref d := rx
  obtain ⟨hs, hgd, hx, es, ep, hdt, hsz, ent⟩ := frzT I1 hd
  have raw : DT.Raw s1.heap d es ep := ⟨o, hgd, hx, hdt⟩
  refine ⟨raw.typeIs, ?_, ?_⟩
  · intro a e
    cases e
    exact ⟨o, hgd, hx.2.1⟩
  have I2 : Inv X pins σ H1 { s1 with heap := s1.heap.push { cls := .type "dict_items", data := .fields #[.ref d] } } := I1.kept (t' := s1.toks) fun b ob q => Heap.get?_push_of_some _ q
  have fin : wpAny (model X.prog X.w) X.A (pyIter (.ref s1.heap.objs.size)) (PIE X pins σ (.Tuple elts kk tpos) R) X.xe { s1 with heap := s1.heap.push { cls := .type "dict_items", data := .fields #[.ref d] } } := by
    refine DT.iterI (d := d) ⟨_, Heap.get?_push_size _ rfl, rfl, rfl⟩ (raw.push _) (pi_one (tk := s1.toks) I2 _ (turn_itemsT _ hdt) ⟨.none, .none, ?_⟩ q)
    rw [← hsz]
    exact Heap.get?_push_size _ rfl
  show wpAny _ _ (callWith cpos (.builtin "dict.items") [.ref d] [] []) _ X.xe s1
  exact method_meetsIn F.slot_dict_items F.entry_dict_items rfl (PySem.evalArgs_none ⟨rfl, raw.typeIs, F.args_dict_items_1 _, _, DT.meetsItems (es := es) (ep := ep) hs, raw, fin⟩)
theorem walk_itemsT {d : Addr} {o : Obj} {kvs : List (List Key × V)} : Walk (Itit d o kvs) kvs.length (fun H => H d = some (.frz o (.dT kvs)))
    (fun i H x H' => ∃ T q k v, kvs[i]? = some (k, v) ∧ x = .ref T ∧ H q = some (.tup (k.map kV)) ∧ H T = none ∧ H' = upd H T (.tup [.ref q, v])) :=
  ⟨fun i _ hi q => ⟨q, hi⟩, fun _ q => ⟨q, Nat.le_refl _⟩, fun i H v H' _ q y => y⟩
end DTX

/-! {k: v for ..} where the keys are tuples that stand. -/
namespace DcT
open PySem PySem.Spec PyProof.Rows L2
section
variable {X : Cx}
theorem put_ok {pins : List (Addr × Obj)} {σ : L2.St} {H : Hp} {s : Shared} {E : Value → Shared → Prop} {D b : Addr} {kvs : List (List Key × V)} {k : List Key} {v : V} {r : Value} {Q : Unit → Shared → Prop} (hu : X.A.units < cLine) (I : L2.Inv X pins σ H s)
    (hD : H D = some (.dT kvs)) (hb : H b = some (.tup (k.map kV))) (hz : kvs.length < sizeLine) (rv : RelV v r) (h : ∀ s', L2.Inv X pins σ (upd H D (.dT (putK kvs k v))) s' → Q () s') : wpAny (model X.prog X.w) X.A (dictSet D (.ref b) r) Q E s := by
  obtain ⟨z, hd, xs, rel, dd⟩ := dt_of I.hok hD
  have l1 : xs.length ≤ sizeLine := by rw [← Paired.length rel]; exact z
  have l2 : (putK kvs k v).length ≤ sizeLine := by have := length_putK kvs k v; omega
  refine wpAny_dictSet_heap (hsz := l1) (show (tupleKind (mixKind X.prog X.w)).room X.A from hu) (key_of I.hok hb) dd fun h' dd' hs => h _ ?_
  obtain ⟨q, es, ep, hq, h2, h3, h4, _, h5⟩ := dd'
  refine d_write I (by rw [hD]; exact True.intro) hs ⟨q, hq⟩ ⟨l2, hd, _, (rel.put k hb rv).keeps fun c ys ec => ?_, q, es, ep, hq, h2, h3, h4, h5⟩
  rw [upd_ne (ne_of ec hD (fun z => nomatch z))]
  exact ec
/-- the reading: D the new dict -/
def tDcT (wi : TI) (g : TG) (tt : TT) (tk tv : TE) (vs : List Nat) : TE := fun σ H Q => wi σ H fun J H1 => ∀ D, H1 D = none → ∃ W : Nat → Nat → Hp → Prop, (∃ m, W 0 m (upd H1 D (.dT []))) ∧ ∀ i m H, W i m H →
  (J.stop i H ∧ Q (.ref D) H) ∨ (J.go i H ∧ ∃ Nx : Hp → Prop, (∀ H', Nx H' → ∃ m', m' < m ∧ W (i + 1) m' H') ∧ ∀ x H', J.yld i H x H' → g x (wipe σ vs) H' fun σ2 H2 => wipe σ2 vs = wipe σ vs ∧ tt σ2 H2 fun c H3 =>
    if c = true then tk σ2 H3 fun y H4 => tv σ2 H4 fun z H5 => ∃ kvs k b, y = .ref b ∧ H5 D = some (.dT kvs) ∧ H5 b = some (.tup (k.map kV)) ∧ kvs.length < sizeLine ∧ Nx (upd H5 D (.dT (putK kvs k z))) else Nx H3)
variable {kx vx tg iter : Expr} {ifs : List Expr} {scope : Scope} {own : List (Str × Nat)} {wi : TI} {g : TG} {tt : TT} {tk tv : TE}
/-- its parts, in whatever block -/
structure Parts (X : Cx) (kx vx tg iter : Expr) (ifs : List Expr) (scope : Scope) (own : List (Str × Nat)) (wi : TI) (g : TG) (tt : TT) (tk tv : TE) : Prop where
  calm : X.calm = true
  nd : X.N.Nodup
  it : PI X tg iter wi
  ok : BlkOk X.N X.env.scope scope own
  tgt : ∀ s H C cl fp, PG (X.blk s H scope (compEnvC scope cl C X.env) fp) tg g
  tst : ∀ s H C cl fp, PTs (X.blk s H scope (compEnvC scope cl C X.env) fp) ifs tt
  key : ∀ s H C cl fp, PE (X.blk s H scope (compEnvC scope cl C X.env) fp) kx tk
  val : ∀ s H C cl fp, PE (X.blk s H scope (compEnvC scope cl C X.env) fp) vx tv
  fold : ∀ x, foldedSetIterable iter X.env x = pure x
  un : X.A.units < cLine
theorem core {pins : List (Addr × Obj)} {s : Shared} {σ : L2.St} {H : Hp} {Q : VK} {pos pos' : Pos} {use : Option (Value → Sem Unit)} {Qf : Value → Shared → Prop}
    (P : Parts X kx vx tg iter ifs scope own wi g tt tk tv) (I : L2.Inv X pins σ H s) (h : tDcT wi g tt tk tv (own.map (·.2)) σ H Q)
    (hRR : ∀ (D : Addr) (C : Addr) s' m H', L2.Inv X pins σ H' s' → Q (.ref D) H' → s'.heap.Ns C m → FpOk X pins H' C → compPost (model X.prog X.w) X.A X.xe use Qf (.ref D) C (.ok .next) s') :
    wpAny (model X.prog X.w) X.A (comprehension (.DictComp kx vx [⟨tg, iter, ifs, 0⟩] scope pos) scope X.env pos' newDict false (eval iter X.env) use) Qf X.xe s := by
  have ok := P.ok
  have free : ∀ y ∈ scope.names, y.2 = .free → ∃ c, X.env.cells.lookup y.1 = some c := fun y hy e => (ok.free y hy e).elim (fun k => I.ok.has _ (.inl k)) fun k => I.ok.has _ (.inr k)
  refine wpAny_comprehension_free (use := use) rfl P.fold (closure_ok free) ok.kind (fun y hy e => (ok.uniq y hy).trans (congrArg some e))
    (thn (P.it.run pins s σ H _ I h) fun v0 s1 k1 => thn k1 fun v1 s2 k2 => ?_)
  obtain ⟨it, fp, tn, J, H2, rfl, I2, T, t2, f2, q⟩ := k2
  refine wpAny_newObj_type (newEnv_comp ?_)
  obtain ⟨D, hD⟩ : ∃ D, D = s2.heap.objs.size := ⟨_, rfl⟩
  rw [← hD]
  have nD : H2 D = none := I2.hok.fresh (Nat.le_of_eq hD.symm)
  obtain ⟨Wv, ⟨m0, w0⟩, turn⟩ := q D nD
  obtain ⟨s3, hs3⟩ : ∃ s3 : Shared, s3 = { s2 with heap := s2.heap.push { cls := .type "dict", data := .dict #[] } } := ⟨_, rfl⟩
  have I3 : L2.Inv X pins σ (upd H2 D (.dT [])) s3 := by
    subst hs3 hD
    exact I2.laid (t' := s2.toks) (fun b o e => Heap.get?_push_of_some _ e) (Nat.le_refl _) (dt_empty s2.heap I2.big)
  have old : ∀ b o, s2.heap.get? b = some o → s3.heap.get? b = some o := fun b o e => by
    rw [hs3]
    exact Heap.get?_push_of_some _ e
  have lt2 : ∀ b ∈ fp, b < s2.heap.objs.size := fun b hb => by
    obtain ⟨o, e, _⟩ := T.obj _ _ t2 b hb
    exact Heap.lt_size e
  have f3 : ∀ b ∈ fp, FpOk X pins (upd H2 D (.dT [])) b ∧ b < s3.heap.objs.size := fun b hb => by
    have l := lt2 b hb
    refine ⟨⟨(upd_ne (by rw [hD]; exact Nat.ne_of_lt l)).trans (f2 b hb).1, (f2 b hb).2⟩, ?_⟩
    rw [hs3]
    show b < (s2.heap.push _).objs.size
    rw [Heap.size_push]
    exact Nat.lt_succ_of_lt l
  have t3 : tn 0 s3.heap := T.keep _ _ _ t2 fun b _ o e => old b o e
  have I4 := block_start I3 ok P.nd f3
  obtain ⟨H3, hH3⟩ : ∃ H3, H3 = upd H2 D (.dT []) := ⟨_, rfl⟩
  rw [← hH3] at I3 I4 f3 w0
  obtain ⟨cl, hcl⟩ : ∃ cl, cl = cellsFrom (s3.heap.objs.size + 1) scope.names (cloFrom X.env.cells scope.names []) := ⟨_, rfl⟩
  rw [← hcl] at I4
  have pgT := P.tgt s3 H3 s3.heap.objs.size cl fp
  have ptT := P.tst s3 H3 s3.heap.objs.size cl fp
  have pkT := P.key s3 H3 s3.heap.objs.size cl fp
  have pvT := P.val s3 H3 s3.heap.objs.size cl fp
  obtain ⟨s4, hs4⟩ : ∃ s4 : Shared, s4 = { s3 with heap := pushCells (s3.heap.push { cls := .type "dict", data := .dict #[] }) scope.names } := ⟨_, rfl⟩
  rw [← hs4] at I4
  have t4 : tn 0 s4.heap := T.keep _ _ _ t3 fun b _ o e => by
    rw [hs4]
    exact pushCells_keeps _ _ _ _ (Heap.get?_push_of_some _ e)
  have key : codeAny (model X.prog X.w) X.A (.compStart (.DictComp kx vx [⟨tg, iter, ifs, 0⟩] scope pos) 0 (.ref it) (.ref D) (compEnvC scope cl s3.heap.objs.size X.env))
      (compPost (model X.prog X.w) X.A X.xe use Qf (.ref D) s3.heap.objs.size) s4 := by
    obtain ⟨ce, hce⟩ : ∃ ce, ce = compEnvC scope cl s3.heap.objs.size X.env := ⟨_, rfl⟩
    rw [← hce] at I4 pgT ptT pkT pvT ⊢
    have cL : ce.locals = s3.heap.objs.size := by rw [hce]; rfl
    have nfp : ∀ b ∈ fp, H3 b = none := fun b hb => (f3 b hb).1.1
    have stat : ∀ {τ : L2.St} {H' : Hp} {s' : Shared}, L2.Inv (X.blk s3 H3 scope ce fp) [] τ H' s' → (∀ b ∈ fp, H' b = none) → ∀ b ∈ fp, FpOk (X.blk s3 H3 scope ce fp) [] H' b := fun {τ H' s'} I' hn b hb =>
      ⟨hn b hb, (I'.ok.exf b hb).1, I'.ok.exfs b hb, .inl hb, fun x c e => (I'.ok.exf b hb).2 x c e, fun p hp => nomatch (show p ∈ ([] : List (Addr × Obj)) from hp)⟩
    have loop : codeAny (model X.prog X.w) X.A (.compLoop (.DictComp kx vx [⟨tg, iter, ifs, 0⟩] scope pos) 0 (.ref it) (.ref D) ce) (compPost (model X.prog X.w) X.A X.xe use Qf (.ref D) s3.heap.objs.size) s4 := by
      refine compLoop_anyD (fun n s' => ∃ i H', L2.Inv (X.blk s3 H3 scope ce fp) [] (wipe σ (own.map (·.2))) H' s' ∧ tn i s'.heap ∧ (∀ b ∈ fp, H' b = none) ∧ Wv i n H') ?_ m0 ⟨0, H3, I4, t4, nfp, w0⟩
      rintro n s5 ⟨i, H5, I5, t5, n5, w5⟩
      rcases turn i n H5 w5 with ⟨stop, qq⟩ | ⟨go, Nx, hNx, step⟩
      · refine thnF (T.done (X.blk s3 H3 scope ce fp) rfl rfl rfl P.calm i [] s5 _ H5 (fun _ _ => False) I5 (stat I5 n5) t5 stop) fun r s6 ⟨hr, I6⟩ => ?_
        subst hr
        have I7 : L2.Inv X pins σ H5 s6 := I3.call' (ch := fp) I6.os I6.base I6.hok I6.bare fun b hb => by
          obtain ⟨_, z1, _, z3, z4, z5⟩ := (f3 b hb).1
          exact ⟨z3, z1, z4, z5⟩
        have nC : H5 ce.locals = none := I6.free
        obtain ⟨m, hn, _⟩ := I6.loc
        have hn : s6.heap.Ns ce.locals m := hn
        rw [cL] at hn nC
        exact hRR D _ s6 m H5 I7 qq hn (I3.fpOk (Nat.le_refl _) nC)
      · refine thnF (T.item (X.blk s3 H3 scope ce fp) rfl rfl rfl P.calm i [] s5 _ H5 (fun _ _ => False) I5 (stat I5 n5) t5 go) fun r s6 ⟨u, hr, h6⟩ => ?_
        subst hr
        refine thnF h6 fun _ s7 ⟨x, H7, I7, r7, y7, t7, n7⟩ => ?_
        have I7' := I7.pinned (stat I7 n7) (T.obj _ _ t7)
        refine thnF (pgT.run _ s7 _ H7 x u _ I7' r7 (step x H7 y7)) fun _ s8 ⟨τ, H8, I8, hw, q8⟩ => ?_
        refine thnF (ptT.run _ s8 τ H8 _ I8 q8) fun b s9 ⟨H9, I9, q9⟩ => ?_
        have fin : ∀ {s' : Shared} {H' : Hp}, L2.Inv (X.blk s3 H3 scope ce fp) ([] ++ pinsAt fp s7.heap) τ H' s' → Nx H' →
            ∃ m, m < n ∧ ∃ i H', L2.Inv (X.blk s3 H3 scope ce fp) [] (wipe σ (own.map (·.2))) H' s' ∧ tn i s'.heap ∧ (∀ b ∈ fp, H' b = none) ∧ Wv i m H' := fun {s' H'} I' nx => by
          obtain ⟨m', hm, w'⟩ := hNx H' nx
          have pin : ∀ b ∈ fp, ∀ o, s7.heap.get? b = some o → s'.heap.get? b = some o ∧ H' b = none := fun b hb o e => by
            have z := I'.pin (b, o) (List.mem_append_right _ (List.mem_append_right _ (mem_pinsAt hb e)))
            exact ⟨z.1, z.2.1⟩
          refine ⟨m', hm, i + 1, H', (I'.unpinned (pins := [])).weak ?_ fun j v e => ?_, T.keep _ _ _ t7 fun b hb o e => (pin b hb o e).1, fun b hb => ?_, w'⟩
          · rw [← hw, wipe_length]
          · rw [← hw] at e
            exact (wipe_some e).1
          · obtain ⟨o, e, _⟩ := T.obj _ _ t7 b hb
            exact (pin b hb o e).2
        cases b with
        | false =>
          rw [if_neg Bool.false_ne_true] at q9 ⊢
          exact fin I9 q9
        | true =>
          rw [if_pos rfl] at q9 ⊢
          refine thnF (pkT.run _ s9 τ H9 _ I9 q9) fun ku s10 ⟨yk, H10, I10, r10, q10⟩ => ?_
          refine thnF (pvT.run _ s10 τ H10 _ I10 q10) fun vu s11 ⟨yv, H11, I11, r11, kvs, k, b, ek, hD11, hb11, hz11, nx⟩ => ?_
          subst ek
          obtain rfl : ku = Value.ref b := r10
          exact put_ok (X := X.blk s3 H3 scope ce fp) P.un I11 hD11 hb11 hz11 r11 fun s12 I12 => fin I12 nx
    exact codeAny_compStart_dict loop (T.self X.A 0 _ _ _ t4 loop)
  subst hs4 hcl hs3
  exact key
/-- as a value -/
theorem pe_dcT {pos : Pos} (P : Parts X kx vx tg iter ifs scope own wi g tt tk tv) : PE X (.DictComp kx vx [⟨tg, iter, ifs, 0⟩] scope pos) (tDcT wi g tt tk tv (own.map (·.2))) := by
  refine ⟨fun pins s σ H Q I h => ?_⟩
  rw [arm_eval_DictComp]
  refine core P I h fun D C s' m H' I' q hn f => ⟨m, hn, fun h'' sb => ?_⟩
  obtain ⟨f0, f1, f2, f3, f4, f5⟩ := f
  exact ⟨.ref D, H', I'.turned (t' := s'.toks) (fun b o hb e => (sb.2 b hb).trans e) f0 f1 f3 f4 f5, rfl, q⟩
/-- over a walk -/
theorem dcT_it {J : It} {n : Nat} {G : Hp → Prop} {Y : Nat → Hp → V → Hp → Prop} (w : Walk J n G Y) {vs : List Nat} {σ : L2.St} {H1 : Hp} {D : Addr} {Qd : Hp → Prop} (Pv : Nat → Hp → Prop) (h0 : Pv 0 (upd H1 D (.dT []))) (hG : ∀ i H, i ≤ n → Pv i H → G H)
    (hs : ∀ i x H H', i < n → Pv i H → Y i H x H' → g x (wipe σ vs) H' fun σ2 H2 => wipe σ2 vs = wipe σ vs ∧ tt σ2 H2 fun c H3 =>
      if c = true then tk σ2 H3 fun y H4 => tv σ2 H4 fun z H5 => ∃ kvs k b, y = .ref b ∧ H5 D = some (.dT kvs) ∧ H5 b = some (.tup (k.map kV)) ∧ kvs.length < sizeLine ∧ Pv (i + 1) (upd H5 D (.dT (putK kvs k z))) else Pv (i + 1) H3) (hd : ∀ H, Pv n H → Qd H) :
    ∃ W : Nat → Nat → Hp → Prop, (∃ m, W 0 m (upd H1 D (.dT []))) ∧ ∀ i m H, W i m H →
      (J.stop i H ∧ Qd H) ∨ (J.go i H ∧ ∃ Nx : Hp → Prop, (∀ H', Nx H' → ∃ m', m' < m ∧ W (i + 1) m' H') ∧ ∀ x H', J.yld i H x H' → g x (wipe σ vs) H' fun σ2 H2 => wipe σ2 vs = wipe σ vs ∧ tt σ2 H2 fun c H3 =>
        if c = true then tk σ2 H3 fun y H4 => tv σ2 H4 fun z H5 => ∃ kvs k b, y = .ref b ∧ H5 D = some (.dT kvs) ∧ H5 b = some (.tup (k.map kV)) ∧ kvs.length < sizeLine ∧ Nx (upd H5 D (.dT (putK kvs k z))) else Nx H3) := by
  refine ⟨fun i m H => i ≤ n ∧ m + i = n ∧ Pv i H, ⟨n, Nat.zero_le _, rfl, h0⟩, ?_⟩
  rintro i m H ⟨hi, hm, p⟩
  have q := hG i H hi p
  rcases Nat.lt_or_ge i n with c | c
  · exact .inr ⟨w.goes i H c q, Pv (i + 1), fun H' p' => ⟨m - 1, by omega, by omega, by omega, p'⟩, fun x H' y => hs i x H H' c p (w.yields i H x H' c q y)⟩
  · obtain rfl : i = n := by omega
    exact .inl ⟨w.stops H q, hd H p⟩
end
end DcT

/-! y = {k: v for ..} on one line, y a local. -/
namespace DcX
open PySem PySem.Spec PyProof.Rows L2
section
variable {X : Cx} {kx vx tg iter : Expr} {ifs : List Expr} {scope : Scope} {own : List (Str × Nat)} {wi : TI} {g : TG} {tt : TT} {tk tv : TE}
theorem swd_true {kx vx : Expr} {gs : List Comprehension} {scope : Scope} {pos py : Pos} {y : Str} {l : Nat} {env : Env} (hk : env.scope.kind = .function) (hy : env.scope.names.lookup y = some .local) (hl : (py.line == pos.line) = true)
    (ha : (scope.names.any fun (n, k) => n == y && (k == .local || k == .cell)) = false) : swapsWith (.DictComp kx vx gs scope pos) (some (.Name y py)) l env = pure true := by
  have k1 : env.kindOf y = some .local := hy
  have k2 : env.blockKind = .function := by unfold Env.blockKind; rw [hk]; rfl
  unfold swapsWith
  simp only [k2, k1, ha, Expr.pos, hl]
  rfl
theorem ps_setDc {i : Nat} {y : Str} {py pos spos : Pos} (hc : X.calm = true) (hN : X.N.Nodup) (hy : X.N[i]? = some y) (hyl : X.env.scope.names.lookup y = some .local)
    (hsw : swapsWith (.DictComp kx vx [⟨tg, iter, ifs, 0⟩] scope pos) (some (.Name y py)) spos.line X.env = pure true) (hi : PI X tg iter wi) (ok : BlkOk X.N X.env.scope scope own)
    (hg : ∀ s H C cl fp, PG (X.blk s H scope (compEnvC scope cl C X.env) fp) tg g) (ht : ∀ s H C cl fp, PTs (X.blk s H scope (compEnvC scope cl C X.env) fp) ifs tt)
    (hk : ∀ s H C cl fp, PE (X.blk s H scope (compEnvC scope cl C X.env) fp) kx tk) (he : ∀ s H C cl fp, PE (X.blk s H scope (compEnvC scope cl C X.env) fp) vx tv) (hs : ∀ x, foldedSetIterable iter X.env x = pure x := by intro _; rfl) :
    PS X (.Assign [.Name y py] (.DictComp kx vx [⟨tg, iter, ifs, 0⟩] scope pos) spos) (tAsg (tDc wi g tt tk tv (own.map (·.2))) (gName i)) := by
  refine ⟨fun pins s σ H D I h => ?_⟩
  rw [exec_Assign_Name_used _ _ _ _ hsw]
  refine wpAny_bind (wpAny_standAt (wpAny_bind ?_))
  show wpAny _ X.A (do let _ ← comprehension (.DictComp kx vx [⟨tg, iter, ifs, 0⟩] scope pos) scope X.env (firstIterPos [⟨tg, iter, ifs, 0⟩] pos) newDict false (eval iter X.env) (some (assign (.Name y py) X.env))) _ _ s
  have h : tDc wi g tt tk tv (own.map (·.2)) σ H (fun x H1 => gName i x σ H1 D.nx) := h
  refine wpAny_bind (thn (dc_core (Qf := fun _ s' => SP X pins D .next s') hc hN I hi ok hg ht hk he hs h fun L C s' m H' I' q hn f => ?_) fun _ s' hq => wpAny_pure (wpAny_pure hq))
  show wpAny _ _ (assign (.Name y py) X.env (.ref L)) _ _ _
  refine wpAny_assign_Name (store_ok2 (v := V.ref L) I' hN hy (.inl hyl) rfl (fun s2 I2 ⟨a, sb, ha⟩ => ?_) (.inr hyl))
  obtain ⟨f0, f1, f2, f3, f4, f5⟩ := f
  have hne : C ≠ a := ha.elim (fun z => by rw [z]; exact f1) fun z e => f4 y a z e.symm
  exact ⟨m, hn.sameBut sb hne, fun h3 sb3 => ⟨_, H', I2.turned (t' := s2.toks) (fun b o hb e => (sb3.2 b hb).trans e) f0 f1 f3 f4 f5, q⟩⟩
/-- over a walk -/
theorem dc_it {J : It} {n : Nat} {G : Hp → Prop} {Y : Nat → Hp → V → Hp → Prop} (w : Walk J n G Y) {vs : List Nat} {σ : L2.St} {H1 : Hp} {D : Addr} {Qd : Hp → Prop} (Pv : Nat → Hp → Prop) (h0 : Pv 0 (upd H1 D (.dK []))) (hG : ∀ i H, i ≤ n → Pv i H → G H)
    (hs : ∀ i x H H', i < n → Pv i H → Y i H x H' → g x (wipe σ vs) H' fun σ2 H2 => wipe σ2 vs = wipe σ vs ∧ tt σ2 H2 fun b H3 =>
      if b = true then tk σ2 H3 fun y H4 => tv σ2 H4 fun z H5 => ∃ kvs k, y = kV k ∧ H5 D = some (.dK kvs) ∧ kvs.length < sizeLine ∧ Pv (i + 1) (upd H5 D (.dK (putK kvs k z))) else Pv (i + 1) H3) (hd : ∀ H, Pv n H → Qd H) :
    ∃ W : Nat → Nat → Hp → Prop, (∃ m, W 0 m (upd H1 D (.dK []))) ∧ ∀ i m H, W i m H →
      (J.stop i H ∧ Qd H) ∨ (J.go i H ∧ ∃ Nx : Hp → Prop, (∀ H', Nx H' → ∃ m', m' < m ∧ W (i + 1) m' H') ∧ ∀ x H', J.yld i H x H' → g x (wipe σ vs) H' fun σ2 H2 => wipe σ2 vs = wipe σ vs ∧ tt σ2 H2 fun b H3 =>
        if b = true then tk σ2 H3 fun y H4 => tv σ2 H4 fun z H5 => ∃ kvs k, y = kV k ∧ H5 D = some (.dK kvs) ∧ kvs.length < sizeLine ∧ Nx (upd H5 D (.dK (putK kvs k z))) else Nx H3) := by
  refine ⟨fun i m H => i ≤ n ∧ m + i = n ∧ Pv i H, ⟨n, Nat.zero_le _, rfl, h0⟩, ?_⟩
  rintro i m H ⟨hi, hm, p⟩
  have q := hG i H hi p
  rcases Nat.lt_or_ge i n with c | c
  · exact .inr ⟨w.goes i H c q, Pv (i + 1), fun H' p' => ⟨m - 1, by omega, by omega, by omega, p'⟩, fun x H' y => hs i x H H' c p (w.yields i H x H' c q y)⟩
  · obtain rfl : i = n := by omega
    exact .inl ⟨w.stops H q, hd H p⟩
end
end DcX

/-! Rounds of relaxing: with a shape there is no change behind as many rounds as nodes, less one. -/
namespace Relax
abbrev Edge := Int × Int × Int
def put (s : Int → Int) (v x : Int) : Int → Int := fun a => if a = v then x else s a
def relax (s : Int → Int) (e : Edge) : Int → Int := if s e.1 + e.2.2 < s e.2.1 then put s e.2.1 (s e.1 + e.2.2) else s
def round (es : List Edge) (s : Int → Int) : Int → Int := es.foldl relax s
def rounds (es : List Edge) : Nat → Int → Int
  | 0 => fun _ => 0
  | k + 1 => round es (rounds es k)
/-- a way along edges: its nodes, the last one first, and its sum -/
inductive WL (es : List Edge) : List Int → Int → Prop
  | one (v : Int) : WL es [v] 0
  | snoc {u v w x : Int} {l : List Int} : WL es (u :: l) x → (u, v, w) ∈ es → WL es (v :: u :: l) (x + w)
theorem relax_le (s : Int → Int) (e : Edge) (a : Int) : relax s e a ≤ s a := by
  unfold relax
  split
  · unfold put
    split
    · rename_i h1 h2
      subst h2
      omega
    · exact Int.le_refl _
  · exact Int.le_refl _
theorem relax_to (s : Int → Int) (e : Edge) : relax s e e.2.1 ≤ s e.1 + e.2.2 := by
  unfold relax
  split
  · unfold put
    rw [if_pos rfl]
    exact Int.le_refl _
  · omega
theorem fold_le : ∀ (es : List Edge) (s : Int → Int) (a : Int), es.foldl relax s a ≤ s a
  | [], _, _ => Int.le_refl _
  | e :: es, s, a => Int.le_trans (fold_le es (relax s e) a) (relax_le s e a)
theorem fold_to : ∀ (es : List Edge) (s : Int → Int) (e : Edge), e ∈ es → es.foldl relax s e.2.1 ≤ s e.1 + e.2.2
  | f :: es, s, e, h => by
    rcases List.mem_cons.mp h with rfl | h
    · exact Int.le_trans (fold_le es (relax s e) _) (relax_to s e)
    · have := fold_to es (relax s f) e h
      have := relax_le s f e.1
      show List.foldl relax (relax s f) es e.2.1 ≤ _
      omega
theorem rounds_le {es : List Edge} : ∀ (k : Nat) (l : List Int) (v x : Int), WL es (v :: l) x → l.length ≤ k → rounds es k v ≤ x
  | 0, l, v, x, h, hl => by
    cases h with
    | one => exact Int.le_refl _
    | snoc h _ => simp at hl
  | k + 1, l, v, x, h, hl => by
    cases h with
    | one =>
      have h0 := rounds_le (es := es) k [] v 0 (.one v) (Nat.zero_le _)
      exact Int.le_trans (fold_le es (rounds es k) v) h0
    | snoc h he =>
      rename_i u w x l
      have := rounds_le k l u x h (by simp at hl; omega)
      have := fold_to es (rounds es k) (u, v, w) he
      show es.foldl relax (rounds es k) v ≤ _
      have : es.foldl relax (rounds es k) v ≤ rounds es k u + w := this
      omega
def Told (es : List Edge) (s : Int → Int) : Prop := ∀ v, ∃ l, WL es (v :: l) (s v)
theorem Told.relax {es : List Edge} {s : Int → Int} (h : Told es s) {e : Edge} (he : e ∈ es) : Told es (relax s e) := fun v => by
  unfold Relax.relax
  split
  · unfold put
    split
    · rename_i h1 h2
      subst h2
      obtain ⟨l, hl⟩ := h e.1
      exact ⟨e.1 :: l, .snoc hl he⟩
    · exact h v
  · exact h v
theorem Told.fold {es : List Edge} : ∀ (fs : List Edge) {s : Int → Int}, Told es s → (∀ e ∈ fs, e ∈ es) → Told es (fs.foldl Relax.relax s)
  | [], _, h, _ => h
  | f :: fs, _, h, hf => Told.fold fs (h.relax (hf f List.mem_cons_self)) fun e he => hf e (List.mem_cons_of_mem _ he)
theorem told_rounds (es : List Edge) : ∀ k, Told es (rounds es k)
  | 0 => fun v => ⟨[], .one v⟩
  | k + 1 => (told_rounds es k).fold es fun _ h => h
/-! cutting rings off -/
theorem WL.tail {es : List Edge} {pi : Int → Int} (hp : ∀ e ∈ es, pi e.2.1 - pi e.1 ≤ e.2.2) : ∀ (l : List Int) {y z x : Int} {c : List Int}, WL es (y :: (l ++ z :: c)) x → ∃ x1, WL es (z :: c) x1 ∧ pi y - pi z ≤ x - x1
  | [], y, z, x, c, h => by
    cases h with
    | snoc h he =>
      rename_i w x
      refine ⟨x, h, ?_⟩
      have := hp _ he
      dsimp only at this
      omega
  | u :: l, y, z, x, c, h => by
    cases h with
    | snoc h he =>
      rename_i w x
      obtain ⟨x1, h1, h2⟩ := WL.tail hp l h
      refine ⟨x1, h1, ?_⟩
      have := hp _ he
      dsimp only at this
      omega
theorem WL.swap {es : List Edge} : ∀ (a : List Int) {y x : Int} {r : List Int}, WL es (a ++ y :: r) x → ∃ x1, WL es (y :: r) x1 ∧ ∀ r' x1', WL es (y :: r') x1' → WL es (a ++ y :: r') (x - x1 + x1')
  | [], y, x, r, h => ⟨x, h, fun r' x1' h' => by
    have e : x - x + x1' = x1' := by omega
    rw [e]
    exact h'⟩
  | [u], y, x, r, h => by
    cases h with
    | snoc h he =>
      rename_i w x
      refine ⟨x, h, fun r' x1' h' => ?_⟩
      have e : x + w - x + x1' = x1' + w := by omega
      rw [e]
      exact .snoc h' he
  | u :: t :: a, y, x, r, h => by
    cases h with
    | snoc h he =>
      rename_i w x
      obtain ⟨x1, h1, h2⟩ := WL.swap (t :: a) h
      refine ⟨x1, h1, fun r' x1' h' => ?_⟩
      have e : x + w - x1 + x1' = (x - x1 + x1') + w := by omega
      rw [e]
      exact .snoc (h2 r' x1' h') he
theorem twice : ∀ (l : List Int), ¬ l.Nodup → ∃ a y b c, l = a ++ y :: (b ++ y :: c)
  | [], h => absurd List.nodup_nil h
  | x :: l, h => by
    by_cases hx : x ∈ l
    · obtain ⟨b, c, rfl⟩ := List.append_of_mem hx
      exact ⟨[], x, b, c, rfl⟩
    · have hl : ¬ l.Nodup := fun z => h (List.nodup_cons.mpr ⟨hx, z⟩)
      obtain ⟨a, y, b, c, rfl⟩ := twice l hl
      exact ⟨x :: a, y, b, c, rfl⟩
theorem few : ∀ (n : Nat) (lo : Int) (l : List Int), l.Nodup → (∀ x ∈ l, lo ≤ x ∧ x < lo + n) → l.length ≤ n
  | 0, lo, l, _, h => by
    cases l with
    | nil => exact Nat.le_refl _
    | cons x l =>
      have := h x List.mem_cons_self
      omega
  | n + 1, lo, l, hn, h => by
    have e := few n lo (l.filter fun x => x ≠ lo + n) (hn.filter _) fun x hx => by
      obtain ⟨h1, h2⟩ := List.mem_filter.mp hx
      have := h x h1
      have h2 : x ≠ lo + n := of_decide_eq_true h2
      omega
    have z : l.length ≤ (l.filter fun x => x ≠ lo + n).length + 1 := by
      have e1 : (l.filter fun x => x ≠ lo + n) = l.erase (lo + n) := by
        rw [hn.erase_eq_filter]
        congr 1
        funext x
        by_cases h : x = lo + n <;> simp [h]
      rw [e1, List.length_erase]
      split <;> omega
    omega
/-- every way can be made short -/
theorem short {es : List Edge} {pi : Int → Int} (hp : ∀ e ∈ es, pi e.2.1 - pi e.1 ≤ e.2.2) {n : Nat} {lo : Int} (hr : ∀ e ∈ es, (lo ≤ e.1 ∧ e.1 < lo + n) ∧ lo ≤ e.2.1 ∧ e.2.1 < lo + n) :
    ∀ (k : Nat) (v : Int) (l : List Int) (x : Int), l.length ≤ k → lo ≤ v → v < lo + n → WL es (v :: l) x → ∃ l' x', WL es (v :: l') x' ∧ x' ≤ x ∧ l'.length + 1 ≤ n := fun k => by
  induction k with
  | zero =>
    intro v l x hk h1 h2 h
    obtain rfl : l = [] := List.length_eq_zero_iff.mp (Nat.le_zero.mp hk)
    exact ⟨[], x, h, Int.le_refl _, by simp; omega⟩
  | succ k ih =>
    intro v l x hk h1 h2 h
    by_cases hn : (v :: l).Nodup
    · refine ⟨l, x, h, Int.le_refl _, few n lo (v :: l) hn ?_⟩
      have key : ∀ {l : List Int} {x : Int}, WL es l x → ∀ v l', l = v :: l' → lo ≤ v → v < lo + n → ∀ y ∈ l, lo ≤ y ∧ y < lo + n := fun {l x} h => by
        induction h with
        | one v =>
          intro v' l' e a1 a2 y hy
          cases e
          rw [List.mem_singleton] at hy
          subst hy
          exact ⟨a1, a2⟩
        | snoc h he ih =>
          intro v' l' e a1 a2 y hy
          cases e
          have z := hr _ he
          rcases List.mem_cons.mp hy with rfl | hy
          · exact ⟨a1, a2⟩
          · exact ih _ _ rfl z.1.1 z.1.2 y hy
      exact key h v l rfl h1 h2
    · obtain ⟨a, y, b, c, e⟩ := twice _ hn
      rw [e] at h
      obtain ⟨x1, q1, q2⟩ := h.swap a
      obtain ⟨x2, q3, q4⟩ := q1.tail hp b
      have q5 := q2 c x2 q3
      cases a with
      | nil =>
        cases e
        obtain ⟨l', x', w1, w2, w3⟩ := ih v c _ (by rw [List.length_append, List.length_cons] at hk; omega) h1 h2 q5
        exact ⟨l', x', w1, by omega, w3⟩
      | cons t a =>
        cases e
        obtain ⟨l', x', w1, w2, w3⟩ := ih v (a ++ y :: c) _ (by have hk : (a ++ y :: (b ++ y :: c)).length ≤ k + 1 := hk; rw [List.length_append, List.length_cons, List.length_append, List.length_cons] at hk; rw [List.length_append, List.length_cons]; omega) h1 h2 q5
        exact ⟨l', x', w1, by omega, w3⟩
/-- with a shape: no edge relaxes behind n - 1 rounds -/
theorem settled {es : List Edge} {pi : Int → Int} (hp : ∀ e ∈ es, pi e.2.1 - pi e.1 ≤ e.2.2) {n : Nat} {lo : Int} (hr : ∀ e ∈ es, (lo ≤ e.1 ∧ e.1 < lo + n) ∧ lo ≤ e.2.1 ∧ e.2.1 < lo + n) {k : Nat} (hk : n ≤ k + 1) :
    ∀ e ∈ es, rounds es k e.2.1 ≤ rounds es k e.1 + e.2.2 := fun e he => by
  obtain ⟨l, hl⟩ := told_rounds es k e.1
  obtain ⟨l', x', w1, w2, w3⟩ := short hp hr (e.1 :: l).length e.2.1 (e.1 :: l) _ (Nat.le_refl _) (hr e he).2.1 (hr e he).2.2 (.snoc hl he)
  have := rounds_le k l' e.2.1 x' w1 (by omega)
  have w2 : x' ≤ rounds es k e.1 + e.2.2 := w2
  omega
end Relax

/-! for x in xs, xs a list or a tuple; [*xs, y]. -/
namespace ItSeq
open PySem PySem.Spec PyProof.Rows L2
/-- a list or a tuple -/
def Sq (K : PySem.W.Frag) (H : Hp) (a : Addr) (xs : List V) : Prop := SqL K H a xs ∨ SqT K H a xs
theorem sqT_same {K : PySem.W.Frag} {H H' : Hp} {a : Addr} {xs : List V} (h : SqT K H a xs) (s : Same H H') : SqT K H' a xs := by
  rcases h with (h | ⟨o, h⟩) | h
  · exact .inl (.inl (s _ _ h))
  · exact .inl (.inr ⟨o, s _ _ h⟩)
  · exact .inr h
theorem sqL_same {K : PySem.W.Frag} {H H' : Hp} {a : Addr} {xs : List V} (h : SqL K H a xs) (s : Same H H') : SqL K H' a xs := by
  rcases h with (h | ⟨o, h⟩) | h
  · exact .inl (.inl (s _ _ h))
  · exact .inl (.inr ⟨o, s _ _ h⟩)
  · exact .inr h
theorem Sq.same {K : PySem.W.Frag} {H H' : Hp} {a : Addr} {xs : List V} (h : Sq K H a xs) (s : Same H H') : Sq K H' a xs := h.imp (sqL_same · s) (sqT_same · s)
/-- whichever it is, it is walked alike as long as all stands -/
def iSeq (K : PySem.W.Frag) (tl : TE) : TI := fun σ H R => tl σ H fun x H1 => ∃ a xs, x = .ref a ∧ Sq K H1 a xs ∧ ∀ J, Walk J xs.length (fun H => Same H1 H) (YAt xs) → R J H1
theorem pi_seq {X : Cx} {tg l : Expr} {tl : TE} (hl : PE X l tl) : PI X tg l (iSeq X.K tl) := by
  refine ⟨fun pins s σ H R I h => ?_⟩
  refine thn (hl.run pins s σ H _ I h) fun v s1 ⟨x, H1, I1, r1, a, xs, e, hq, q⟩ => ?_
  subst e
  cases r1
  have fp : ∀ b ∈ [s1.heap.objs.size], FpOk X pins H1 b := fun b hb => by
    rw [List.mem_singleton] at hb
    subst hb
    exact I1.fpOk (Nat.le_refl _) (I1.hok.fresh (Nat.le_refl _))
  rcases hq with hq | hq
  · obtain ⟨its, rv, p, hz⟩ := I1.list hq
    exact wpAny_pyIter_list p.isList ⟨s1.heap.objs.size, [s1.heap.objs.size], _, _, H1, rfl, I1.kept (t' := s1.toks) fun b o e => Heap.get?_push_of_some _ e, turn_list a _, ⟨_, Heap.get?_push_size _ rfl, rfl, rfl⟩, fp,
      q _ (walk_list.mono (fun _ s => sqL_same hq s) fun _ _ _ _ _ _ y => y)⟩
  · obtain ⟨its, rv, p, hz⟩ := I1.tuple hq
    exact wpAny_pyIter_tuple (show s1.heap.IsTuple a its.toArray from p) ⟨s1.heap.objs.size, [s1.heap.objs.size], _, _, H1, rfl, I1.kept (t' := s1.toks) fun b o e => Heap.get?_push_of_some _ e, turn_tuple a _, ⟨_, Heap.get?_push_size _ rfl, rfl, rfl⟩, fp,
      q _ (walk_tup.mono (fun _ s => sqT_same hq s) fun _ _ _ _ _ _ y => y)⟩
end ItSeq

namespace Law
open PySem PySem.Spec PyProof.Rows L2
theorem passS {X : Cx} {CX : CXT} {E : XK} (h : Passes CX X E) : ∀ σ, PassesAt CX X σ E := fun σ pins H s e s' I c => h pins σ H s e s' I c
end Law



/-! Site: the rows of walls, and what is made of them. -/
namespace Law
open PySem PySem.Spec PyProof.Rows L2 Sup
abbrev sSpots : Stmt := top 21
abbrev sTops : Stmt := top 22
theorem call_lenK (K : PySem.W.Frag) {X : Cx} (h : X.K = K) : CallR X (.builtin "len") (fun xs H Q => ∃ p ys, xs = [.ref p] ∧ (SqL K H p ys ∨ SqT K H p ys) ∧ Q (.int ys.length) H) := h ▸ call_len_seq
section
variable {J : It} {n : Nat} {G : Hp → Prop} {Y : Nat → Hp → V → Hp → Prop}
/-- the inner clause of a comprehension with two: Nx behind it -/
def InnerC (D : Addr) (g1 : TG) (tt1 : TT) (te : TE) (vs1 : List Nat) (J1 : It) (σ2 : L2.St) (Nx : Hp → Prop) (H4 : Hp) : Prop := ∃ W1 : Nat → Nat → Hp → Prop, (∃ m, W1 0 m H4) ∧ ∀ j k H, W1 j k H →
  (J1.stop j H ∧ Nx H) ∨ (J1.go j H ∧ ∃ Nx1 : Hp → Prop, (∀ H', Nx1 H' → ∃ k', k' < k ∧ W1 (j + 1) k' H') ∧ ∀ x H', J1.yld j H x H' → g1 x (wipe σ2 vs1) H' fun σ3 H5 => wipe σ3 vs1 = wipe σ2 vs1 ∧ tt1 σ3 H5 fun b H6 =>
    if b = true then te σ3 H6 fun y H7 => ∃ acc, H7 D = some (.lst acc) ∧ acc.length < sizeLine ∧ Nx1 (upd H7 D (.lst (acc ++ [y]))) else Nx1 H6)
theorem lcI (w : Walk J n G Y) {g : TG} {tt : TT} {te : TE} {vs : List Nat} {σ : L2.St} {H0 : Hp} {D : Addr} {Qd : Hp → Prop} (Pv : Nat → Hp → Prop) (h0 : Pv 0 H0) (hG : ∀ i H, i ≤ n → Pv i H → G H)
    (hs : ∀ i x H H', i < n → Pv i H → Y i H x H' → g x (wipe σ vs) H' fun σ2 H2 => wipe σ2 vs = wipe σ vs ∧ tt σ2 H2 fun b H3 =>
      if b = true then te σ2 H3 fun y H4 => ∃ acc, H4 D = some (.lst acc) ∧ acc.length < sizeLine ∧ Pv (i + 1) (upd H4 D (.lst (acc ++ [y]))) else Pv (i + 1) H3) (hd : ∀ H, Pv n H → Qd H) : InnerC D g tt te vs J σ Qd H0 := by
  refine ⟨fun i m H => i ≤ n ∧ m + i = n ∧ Pv i H, ⟨n, Nat.zero_le _, rfl, h0⟩, ?_⟩
  rintro i m H ⟨hi, hm, p⟩
  have q := hG i H hi p
  rcases Nat.lt_or_ge i n with c | c
  · exact .inr ⟨w.goes i H c q, Pv (i + 1), fun H' p' => ⟨m - 1, by omega, by omega, by omega, p'⟩, fun x H' y => hs i x H H' c p (w.yields i H x H' c q y)⟩
  · obtain rfl : i = n := by omega
    exact .inl ⟨w.stops H q, hd H p⟩
/-- the outer clause -/
theorem lcO (w : Walk J n G Y) {g g1 : TG} {tt tt1 : TT} {te : TE} {wi1 : TI} {vs vs1 : List Nat} {σ : L2.St} {H1 : Hp} {D : Addr} {Qd : Hp → Prop} (Pv : Nat → Hp → Prop) (h0 : Pv 0 (upd H1 D (.lst []))) (hG : ∀ i H, i ≤ n → Pv i H → G H)
    (hs : ∀ i x H H', i < n → Pv i H → Y i H x H' → g x (wipe σ vs) H' fun σ2 H2 => wipe σ2 vs = wipe σ vs ∧ tt σ2 H2 fun b H3 => if b = true then wi1 σ2 H3 fun J1 H4 => InnerC D g1 tt1 te vs1 J1 σ2 (Pv (i + 1)) H4 else Pv (i + 1) H3) (hd : ∀ H, Pv n H → Qd H) :
    ∃ W : Nat → Nat → Hp → Prop, (∃ m, W 0 m (upd H1 D (.lst []))) ∧ ∀ i m H, W i m H →
      (J.stop i H ∧ Qd H) ∨ (J.go i H ∧ ∃ Nx : Hp → Prop, (∀ H', Nx H' → ∃ m', m' < m ∧ W (i + 1) m' H') ∧ ∀ x H', J.yld i H x H' → g x (wipe σ vs) H' fun σ2 H2 => wipe σ2 vs = wipe σ vs ∧ tt σ2 H2 fun b H3 =>
        if b = true then wi1 σ2 H3 fun J1 H4 => InnerC D g1 tt1 te vs1 J1 σ2 Nx H4 else Nx H3) := by
  refine ⟨fun i m H => i ≤ n ∧ m + i = n ∧ Pv i H, ⟨n, Nat.zero_le _, rfl, h0⟩, ?_⟩
  rintro i m H ⟨hi, hm, p⟩
  have q := hG i H hi p
  rcases Nat.lt_or_ge i n with c | c
  · exact .inr ⟨w.goes i H c q, Pv (i + 1), fun H' p' => ⟨m - 1, by omega, by omega, by omega, p'⟩, fun x H' y => hs i x H H' c p (w.yields i H x H' c q y)⟩
  · obtain rfl : i = n := by omega
    exact .inl ⟨w.stops H q, hd H p⟩
end
/-- a wall: its name, top, slope and spans -/
abbrev Wal := Str × Int × Int × List Int
def Wal.many (w : Wal) : Nat := w.2.2.2.length + 1
theorem sqT_same {K : PySem.W.Frag} {H H' : Hp} {a : Addr} {xs : List V} (h : SqT K H a xs) (s : Same H H') : SqT K H' a xs := by
  rcases h with (h | ⟨o, h⟩) | h
  · exact .inl (.inl (s _ _ h))
  · exact .inl (.inr ⟨o, s _ _ h⟩)
  · exact .inr h
def WalT (K : PySem.W.Frag) (H : Hp) (t : Addr) (w : Wal) : Prop := ∃ sp, H t = some (.tup [.str w.1, .int w.2.1, .int w.2.2.1, .ref sp]) ∧ SqT K H sp (w.2.2.2.map V.int)
theorem WalT.same {K : PySem.W.Frag} {H H' : Hp} {t : Addr} {w : Wal} (h : WalT K H t w) (s : Same H H') : WalT K H' t w := by
  obtain ⟨sp, h1, h2⟩ := h
  exact ⟨sp, s _ _ h1, sqT_same h2 s⟩
def WalsAt (K : PySem.W.Frag) (H : Hp) (p : Addr) (ws : List Wal) : Prop := ∃ ts : List Addr, H p = some (.lst (ts.map V.ref)) ∧ ts.length = ws.length ∧ ∀ (i : Nat) (t : Addr) (w : Wal), ts[i]? = some t → ws[i]? = some w → WalT K H t w
theorem WalsAt.same {K : PySem.W.Frag} {H H' : Hp} {p : Addr} {ws : List Wal} (h : WalsAt K H p ws) (s : Same H H') : WalsAt K H' p ws := by
  obtain ⟨ts, h1, h2, h3⟩ := h
  exact ⟨ts, s _ _ h1, h2, fun i t w e1 e2 => (h3 i t w e1 e2).same s⟩
def spotsW (w : Wal) : List (Str × Int) := (List.range w.many).map fun (i : Nat) => (w.1, (i : Int))
def spotsOf (ws : List Wal) : List (Str × Int) := ws.flatMap spotsW
def topsW (w : Wal) : List Int := List.replicate w.many w.2.1
def topsOf (ws : List Wal) : List Int := ws.flatMap topsW
theorem tops_len : ∀ ws : List Wal, (topsOf ws).length = (spotsOf ws).length
  | [] => rfl
  | w :: ws => by
    have ih := tops_len ws
    unfold topsOf spotsOf at ih ⊢
    rw [List.flatMap_cons, List.flatMap_cons, List.length_append, List.length_append, ih]
    unfold topsW spotsW
    rw [List.length_replicate, List.length_map, List.length_range]
/-- the rows list grows by a new tuple -/
theorem RowsAt.push {H : Hp} {p q : Addr} {rows : List Row} {y : Str} {L : Int} (h : RowsAt H p rows) (hq : H q = none) (hl : rows.length ≤ 900) :
    ∃ acc, (upd H q (.tup [.str y, .int L])) p = some (.lst acc) ∧ acc.length < sizeLine ∧ RowsAt (upd (upd H q (.tup [.str y, .int L])) p (.lst (acc ++ [.ref q]))) p (rows ++ [(y, L)]) := by
  obtain ⟨ts, h1, h2, h3⟩ := h
  have npq : p ≠ q := ne_of_none h1 hq
  refine ⟨_, by rw [upd_ne npq]; exact h1, small1000 (by rw [List.length_map]; omega), ts ++ [q], by rw [upd_same, List.map_append]; rfl, by simp [h2], fun i t y' L' e1 e2 => ?_⟩
  by_cases hi : i < ts.length
  · rw [List.getElem?_append_left hi] at e1
    rw [List.getElem?_append_left (by omega)] at e2
    have z := h3 i t y' L' e1 e2
    have n1 : t ≠ p := fun w => by rw [w, h1] at z; cases z
    rw [upd_ne n1, upd_ne (ne_of_none z hq)]
    exact z
  · rw [List.getElem?_append_right (by omega)] at e1 e2
    have ei : i - ts.length = 0 := by
      have := (List.getElem?_eq_some_iff.mp e1).1
      simp at this
      omega
    have ej : i - rows.length = 0 := by omega
    rw [ei] at e1
    rw [ej] at e2
    cases e1
    cases e2
    rw [upd_ne (Ne.symm npq), upd_same]
theorem part_len {α β : Type} {l : List α} {f : α → List β} {i j : Nat} {a : α} (h : l[i]? = some a) : ((l.take i).flatMap f ++ (f a).take j).length ≤ (l.flatMap f).length := by
  have e : l = l.take i ++ a :: l.drop (i + 1) := by
    obtain ⟨hi', hx⟩ := List.getElem?_eq_some_iff.mp h
    rw [← hx, List.getElem_cons_drop, List.take_append_drop]
  have e2 : (l.flatMap f).length = ((l.take i).flatMap f).length + ((f a).length + ((l.drop (i + 1)).flatMap f).length) := by
    conv => lhs; rw [e]
    rw [List.flatMap_append, List.flatMap_cons, List.length_append, List.length_append]
  rw [List.length_append, List.length_take, e2]
  omega
structure STxt (mg : Str → Option Value) : Prop where
  len : mg "len" = none
  range : mg "range" = none
def spSpots (K : PySem.W.Frag) : Sp := fun vs H Q _ => ∃ (p : Addr) (ws : List Wal), vs = [.ref p] ∧ WalsAt K H p ws ∧ (spotsOf ws).length ≤ 800 ∧ ∀ (q : Addr) (H' : Hp), H q = none → Same H H' → RowsAt H' q (spotsOf ws) → Q (.ref q) H'
def spTops (K : PySem.W.Frag) : Sp := fun vs H Q _ => ∃ (p : Addr) (ws : List Wal), vs = [.ref p] ∧ WalsAt K H p ws ∧ (spotsOf ws).length ≤ 800 ∧ ∀ (q : Addr) (H' : Hp), H q = none → Same H H' → H' q = some (.lst ((topsOf ws).map V.int)) → Q (.ref q) H'
section
variable {P : Program} {w : World} {K : PySem.W.Frag} {mg : Str → Option Value} {base : Heap}
theorem scSpots : FnScope ["rows", "name", "_", "spans", "index"] ["rows"] (defScope sSpots) := ⟨rfl, rfl, rfl, by decide +kernel, rfl, by decide +kernel, by decide +kernel⟩
theorem scTops : FnScope ["rows", "_", "top", "spans"] ["rows"] (defScope sTops) := ⟨rfl, rfl, rfl, by decide +kernel, rfl, by decide +kernel, by decide +kernel⟩
set_option maxHeartbeats 0 in
theorem ok_spots {f : Addr} {fd : FuncData} (F : Fun K "_spots_of" "_spots_of" sSpots f fd) (T : STxt mg) : FnOk P w K mg base CX0 1 f fd ["rows"] (spSpots K) := by
  refine F.ok scSpots (fun vs H Q E h => ?_) (fun cdv A outer s H vs Q E hr h => ?_)
  · obtain ⟨p, ws, rfl, _⟩ := h
    rfl
  · obtain ⟨p, ws, rfl, W, len8, k⟩ := h
    refine ⟨_, (pss_one (ps_ret (pe_lc2 (own := [("name", 1), ("_", 2), ("spans", 3), ("index", 4)]) (vs1 := [4]) (g := (gTup K 4 (gCons (gName 1) (gCons (gName 2) (gCons (gName 2) (gCons (gName 3) gNil)))))) (g1 := gName 4) (tt := tYes) (tt1 := tYes) (wi1 := (iRng1 (tCons (tOp (rI0 fun i j => .int (i + j)) (tCB (fun xs H Q => ∃ p ys, xs = [.ref p] ∧ (SqL K H p ys ∨ SqT K H p ys) ∧ Q (.int ys.length) H) (tCons (tVar 3) tNil)) (tC (.int 1))) tNil))) (te := tTup (tCons (tVar 1) (tCons (tVar 4) tNil)))
        (by rfl) scSpots.nd (pi_list (pv 0)) (blkOk_by (own := [("name", 1), ("_", 2), ("spans", 3), ("index", 4)]) (N := ["rows", "name", "_", "spans", "index"]) (sc := defScope sSpots) (by decide +kernel)) (by decide)
        (fun _ _ _ _ _ => by exact (pg_tup (n := 4) rfl (pgs_cons (pg_name (i := 1) scSpots.nd rfl (Or.inl rfl)) (pgs_cons (pg_name (i := 2) scSpots.nd rfl (Or.inl rfl)) (pgs_cons (pg_name (i := 2) scSpots.nd rfl (Or.inl rfl)) (pgs_cons (pg_name (i := 3) scSpots.nd rfl (Or.inl rfl)) pgs_nil)))))) (fun _ _ _ _ _ => pts_nil) (fun _ _ _ _ _ => by exact (pi_range1 (by rfl) T.range (pa_cons (pe_op op_add (pe_callB (call_lenK K rfl) (by rfl) T.len PySem.boot_len (pa_cons (pv 3) pa_nil)) pe_int) pa_nil)))
        (fun _ _ _ _ _ => pg_name (i := 4) scSpots.nd rfl (Or.inl rfl)) (fun _ _ _ _ _ => pts_nil) (fun _ _ _ _ _ => (pe_tup (pa_cons (pv 1) (pa_cons (pv 4) pa_nil))))))), ?_⟩
    obtain ⟨ts, t1, t2, t3⟩ := id W
    refine ⟨_, rfl, p, rfl, ⟨_, SqL.of t1⟩, fun D hD => ?_⟩
    refine lcO (walk_list (xs := ts.map V.ref)) (fun i H' => RowsAt H' D ((ws.take i).flatMap spotsW) ∧ Same H H') ⟨⟨[], upd_same, rfl, fun i t y L e => by cases e⟩, same_new hD⟩ (fun _ _ _ h => SqL.of (h.2 _ _ t1)) ?_ ?_
    · rintro i x H1 H2 hi ⟨R, S1⟩ ⟨rfl, hx⟩
      rw [List.length_map] at hi
      rw [List.getElem?_map, List.getElem?_eq_getElem hi] at hx
      cases hx
      obtain ⟨wl, hw⟩ : ∃ w, ws[i]? = some w := ⟨_, List.getElem?_eq_getElem (by omega)⟩
      obtain ⟨sp, z1, z2⟩ := (t3 i _ wl (List.getElem?_eq_getElem hi) hw).same S1
      have et : (ws.take (i + 1)).flatMap spotsW = (ws.take i).flatMap spotsW ++ spotsW wl := by
        rw [List.take_succ, hw, List.flatMap_append]
        simp
      have wm : wl.many = wl.2.2.2.length + 1 := rfl
      have pl0 := part_len (f := spotsW) (j := wl.many) hw
      have hm8 : wl.many ≤ 800 := by
        have e2 : ((ws.take i).flatMap spotsW ++ (spotsW wl).take wl.many).length ≤ 800 := Nat.le_trans pl0 len8
        rw [List.length_append, List.length_take] at e2
        have : (spotsW wl).length = wl.many := by unfold spotsW; rw [List.length_map, List.length_range]
        omega
      refine ⟨_, _, rfl, SqT.of z1, rfl, _, _, rfl, _, _, rfl, _, _, rfl, _, _, rfl, rfl, rfl, _, rfl, sp, _, rfl, .inr z2, _, _, rfl, rfl, _, rfl, by omega, by rw [List.length_map]; omega, ?_⟩
      have en : ((((wl.2.2.2.map V.int).length : Nat) : Int) + 1).toNat = wl.many := by rw [List.length_map, wm]; omega
      rw [en]
      refine lcI (walk_range (lo := 0) (n := wl.many)) (fun m H' => RowsAt H' D ((ws.take i).flatMap spotsW ++ (spotsW wl).take m) ∧ Same H H') ⟨by rw [List.take_zero, List.append_nil]; exact R, S1⟩ (fun _ _ _ _ => trivial) ?_ ?_
      · rintro m x H3 H4 hm ⟨R3, S3⟩ ⟨rfl, rfl⟩
        have pl := part_len (f := spotsW) (j := m) hw
        have pl : ((ws.take i).flatMap spotsW ++ (spotsW wl).take m).length ≤ (spotsOf ws).length := pl
        refine ⟨rfl, _, rfl, _, rfl, by show 2 ≤ sizeLine; decide, fun q hq => ?_⟩
        obtain ⟨acc, a1, a2, a3⟩ := R3.push (y := wl.1) (L := 0 + (m : Int)) hq (by omega)
        refine ⟨acc, a1, a2, ?_, fun b o e => ?_⟩
        · have er : (spotsW wl)[m]? = some (wl.1, 0 + (m : Int)) := by
            unfold spotsW
            rw [List.getElem?_map, List.getElem?_range hm, Int.zero_add]
            rfl
          rw [List.take_succ, er, ← List.append_assoc]
          exact a3
        · rw [upd_ne (ne_of_none e hD), upd_ne (ne_of_none (S3 _ _ e) hq)]
          exact S3 _ _ e
      · rintro H3 ⟨R3, S3⟩
        rw [List.take_of_length_le (l := spotsW wl) (by unfold spotsW; rw [List.length_map, List.length_range]; omega)] at R3
        rw [et]
        exact ⟨R3, S3⟩
    · rintro H1 ⟨R, S1⟩
      rw [List.length_map, t2, List.take_length] at R
      exact k D H1 hD S1 R
set_option maxHeartbeats 0 in
theorem ok_tops {f : Addr} {fd : FuncData} (F : Fun K "_tops_of" "_tops_of" sTops f fd) (T : STxt mg) : FnOk P w K mg base CX0 1 f fd ["rows"] (spTops K) := by
  refine F.ok scTops (fun vs H Q E h => ?_) (fun cdv A outer s H vs Q E hr h => ?_)
  · obtain ⟨p, ws, rfl, _⟩ := h
    rfl
  · obtain ⟨p, ws, rfl, W, len8, k⟩ := h
    refine ⟨_, (pss_one (ps_ret (pe_lc2 (own := [("_", 1), ("top", 2), ("spans", 3)]) (vs1 := [1]) (g := (gTup K 4 (gCons (gName 1) (gCons (gName 2) (gCons (gName 1) (gCons (gName 3) gNil)))))) (g1 := gName 1) (tt := tYes) (tt1 := tYes) (wi1 := (iRng1 (tCons (tOp (rI0 fun i j => .int (i + j)) (tCB (fun xs H Q => ∃ p ys, xs = [.ref p] ∧ (SqL K H p ys ∨ SqT K H p ys) ∧ Q (.int ys.length) H) (tCons (tVar 3) tNil)) (tC (.int 1))) tNil))) (te := tVar 2)
        (by rfl) scTops.nd (pi_list (pv 0)) (blkOk_by (own := [("_", 1), ("top", 2), ("spans", 3)]) (N := ["rows", "_", "top", "spans"]) (sc := defScope sTops) (by decide +kernel)) (by decide)
        (fun _ _ _ _ _ => by exact (pg_tup (n := 4) rfl (pgs_cons (pg_name (i := 1) scTops.nd rfl (Or.inl rfl)) (pgs_cons (pg_name (i := 2) scTops.nd rfl (Or.inl rfl)) (pgs_cons (pg_name (i := 1) scTops.nd rfl (Or.inl rfl)) (pgs_cons (pg_name (i := 3) scTops.nd rfl (Or.inl rfl)) pgs_nil)))))) (fun _ _ _ _ _ => pts_nil) (fun _ _ _ _ _ => by exact (pi_range1 (by rfl) T.range (pa_cons (pe_op op_add (pe_callB (call_lenK K rfl) (by rfl) T.len PySem.boot_len (pa_cons (pv 3) pa_nil)) pe_int) pa_nil)))
        (fun _ _ _ _ _ => pg_name (i := 1) scTops.nd rfl (Or.inl rfl)) (fun _ _ _ _ _ => pts_nil) (fun _ _ _ _ _ => (pv 2))))), ?_⟩
    obtain ⟨ts, t1, t2, t3⟩ := id W
    rw [← tops_len] at len8
    refine ⟨_, rfl, p, rfl, ⟨_, SqL.of t1⟩, fun D hD => ?_⟩
    refine lcO (walk_list (xs := ts.map V.ref)) (fun i H' => H' D = some (.lst (((ws.take i).flatMap topsW).map V.int)) ∧ Same H H') ⟨upd_same, same_new hD⟩ (fun _ _ _ h => SqL.of (h.2 _ _ t1)) ?_ ?_
    · rintro i x H1 H2 hi ⟨R, S1⟩ ⟨rfl, hx⟩
      rw [List.length_map] at hi
      rw [List.getElem?_map, List.getElem?_eq_getElem hi] at hx
      cases hx
      obtain ⟨wl, hw⟩ : ∃ w, ws[i]? = some w := ⟨_, List.getElem?_eq_getElem (by omega)⟩
      obtain ⟨sp, z1, z2⟩ := (t3 i _ wl (List.getElem?_eq_getElem hi) hw).same S1
      have et : (ws.take (i + 1)).flatMap topsW = (ws.take i).flatMap topsW ++ topsW wl := by
        rw [List.take_succ, hw, List.flatMap_append]
        simp
      have wm : wl.many = wl.2.2.2.length + 1 := rfl
      have tl : (topsW wl).length = wl.many := by unfold topsW; rw [List.length_replicate]
      have pl0 := part_len (f := topsW) (j := wl.many) hw
      have hm8 : wl.many ≤ 800 := by
        have e2 : ((ws.take i).flatMap topsW ++ (topsW wl).take wl.many).length ≤ 800 := Nat.le_trans pl0 len8
        rw [List.length_append, List.length_take] at e2
        omega
      refine ⟨_, _, rfl, SqT.of z1, rfl, _, _, rfl, _, _, rfl, _, _, rfl, _, _, rfl, rfl, rfl, _, rfl, sp, _, rfl, .inr z2, _, _, rfl, rfl, _, rfl, by omega, by rw [List.length_map]; omega, ?_⟩
      have en : ((((wl.2.2.2.map V.int).length : Nat) : Int) + 1).toNat = wl.many := by rw [List.length_map, wm]; omega
      rw [en]
      refine lcI (walk_range (lo := 0) (n := wl.many)) (fun m H' => H' D = some (.lst (((ws.take i).flatMap topsW ++ (topsW wl).take m).map V.int)) ∧ Same H H') ⟨by rw [List.take_zero, List.append_nil]; exact R, S1⟩ (fun _ _ _ _ => trivial) ?_ ?_
      · rintro m x H3 H4 hm ⟨R3, S3⟩ ⟨rfl, rfl⟩
        have pl := part_len (f := topsW) (j := m) hw
        have pl : ((ws.take i).flatMap topsW ++ (topsW wl).take m).length ≤ (topsOf ws).length := pl
        refine ⟨rfl, _, rfl, _, R3, small1000 (by rw [List.length_map]; omega), ?_, fun b o e => ?_⟩
        · have er : (topsW wl)[m]? = some wl.2.1 := by
            unfold topsW
            rw [List.getElem?_replicate, if_pos hm]
          rw [upd_same, List.take_succ, er, ← List.append_assoc]
          exact congrArg (fun l => some (HO.lst l)) (List.map_append (l₂ := [wl.2.1])).symm
        · rw [upd_ne (ne_of_none e hD)]
          exact S3 _ _ e
      · rintro H3 ⟨R3, S3⟩
        rw [List.take_of_length_le (l := topsW wl) (by omega)] at R3
        rw [et]
        exact ⟨R3, S3⟩
    · rintro H1 ⟨R, S1⟩
      rw [List.length_map, t2, List.take_length] at R
      exact k D H1 hD S1 R
end
end Law

/-! The limits that walls and links tell. -/
namespace Law
open PySem PySem.Spec PyProof.Rows L2 Sup
abbrev sGrd : Stmt := top 24
abbrev sSlp : Stmt := top 25
abbrev sLnk : Stmt := top 26
abbrev Edge := Int × Int × Int
/-- a list of limits: tuples of three ints -/
def LimsAt (H : Hp) (p : Addr) (es : List Edge) : Prop := ∃ ts : List Addr, H p = some (.lst (ts.map V.ref)) ∧ ts.length = es.length ∧ ∀ (i : Nat) (t : Addr) (e : Edge), ts[i]? = some t → es[i]? = some e → H t = some (.tup [.int e.1, .int e.2.1, .int e.2.2])
theorem LimsAt.same {H H' : Hp} {p : Addr} {es : List Edge} (h : LimsAt H p es) (s : Same H H') : LimsAt H' p es := by
  obtain ⟨ts, h1, h2, h3⟩ := h
  exact ⟨ts, s _ _ h1, h2, fun i t e e1 e2 => s _ _ (h3 i t e e1 e2)⟩
theorem LimsAt.len {H : Hp} {p : Addr} {es : List Edge} (h : LimsAt H p es) : ∃ xs, H p = some (.lst xs) ∧ xs.length = es.length := by
  obtain ⟨ts, h1, h2, _⟩ := h
  exact ⟨_, h1, by rw [List.length_map]; exact h2⟩
theorem LimsAt.push {H : Hp} {p t : Addr} {es : List Edge} {e : Edge} {xs : List V} (h : LimsAt H p es) (hx : H p = some (.lst xs)) (ht : H t = some (.tup [.int e.1, .int e.2.1, .int e.2.2])) : LimsAt (upd H p (.lst (xs ++ [.ref t]))) p (es ++ [e]) := by
  obtain ⟨ts, h1, h2, h3⟩ := h
  rw [hx] at h1
  cases h1
  have old : ∀ {c : Addr} {ys : List V}, H c = some (.tup ys) → c ≠ p := fun {c ys} e z => by rw [z, hx] at e; cases e
  refine ⟨ts ++ [t], by rw [upd_same, List.map_append]; rfl, by simp [h2], fun i t' e' e1 e2 => ?_⟩
  by_cases hi : i < ts.length
  · rw [List.getElem?_append_left hi] at e1
    rw [List.getElem?_append_left (by omega)] at e2
    have z := h3 i t' e' e1 e2
    rw [upd_ne (old z)]
    exact z
  · rw [List.getElem?_append_right (by omega)] at e1 e2
    have ei : i - ts.length = 0 := by
      have := (List.getElem?_eq_some_iff.mp e1).1
      simp at this
      omega
    have ej : i - es.length = 0 := by omega
    rw [ei] at e1
    rw [ej] at e2
    cases e1
    cases e2
    rw [upd_ne (old ht)]
    exact ht
theorem LimsAt.cat {H : Hp} {a b p : Addr} {xs ys : List V} {u v : List Edge} (hu : LimsAt H a u) (hv : LimsAt H b v) (ha : H a = some (.lst xs)) (hb : H b = some (.lst ys)) (hp : H p = none) : LimsAt (upd H p (.lst (xs ++ ys))) p (u ++ v) := by
  obtain ⟨us, u1, u2, u3⟩ := hu
  obtain ⟨vs, v1, v2, v3⟩ := hv
  rw [ha] at u1
  rw [hb] at v1
  cases u1
  cases v1
  refine ⟨us ++ vs, by rw [upd_same, List.map_append], by rw [List.length_append, List.length_append, u2, v2], fun i t e e1 e2 => ?_⟩
  by_cases hi : i < us.length
  · rw [List.getElem?_append_left hi] at e1
    rw [List.getElem?_append_left (by omega)] at e2
    have z := u3 i t e e1 e2
    rw [upd_ne (ne_of_none z hp)]
    exact z
  · rw [List.getElem?_append_right (by omega)] at e1 e2
    rw [← u2] at e2
    have z := v3 _ t e e1 e2
    rw [upd_ne (ne_of_none z hp)]
    exact z
/-- two limits more, each in a new tuple: what the steps of the loops do -/
theorem push2 {H0 H : Hp} {p : Addr} {es : List Edge} {Q : Hp → Prop} (e f : Edge) (h : LimsAt H p es) (s : Same H0 H) (np : H0 p = none) (hl : es.length ≤ 900)
    (k : ∀ H', LimsAt H' p (es ++ [e, f]) → Same H0 H' → Q H') :
    ∀ t, H t = none → ∃ xs, upd H t (.tup [.int e.1, .int e.2.1, .int e.2.2]) p = some (.lst xs) ∧ xs.length < sizeLine ∧
      ∀ H1, H1 = upd (upd H t (.tup [.int e.1, .int e.2.1, .int e.2.2])) p (.lst (xs ++ [.ref t])) → (∃ ys, H1 p = some (.lst ys)) ∧ ∀ u, H1 u = none → ∃ ys, upd H1 u (.tup [.int f.1, .int f.2.1, .int f.2.2]) p = some (.lst ys) ∧ ys.length < sizeLine ∧
        Q (upd (upd H1 u (.tup [.int f.1, .int f.2.1, .int f.2.2])) p (.lst (ys ++ [.ref u]))) := fun t ht => by
  have s1 := same_new (o := .tup [.int e.1, .int e.2.1, .int e.2.2]) ht
  have h1 := h.same s1
  obtain ⟨xs, x1, x2⟩ := h1.len
  have e0 : upd H t (.tup [.int e.1, .int e.2.1, .int e.2.2]) t = some (.tup [.int e.1, .int e.2.1, .int e.2.2]) := upd_same
  have sA := same_tr s s1
  generalize upd H t (.tup [.int e.1, .int e.2.1, .int e.2.2]) = HA at s1 h1 x1 e0 sA
  refine ⟨xs, x1, small1000 (by omega), fun H1 eH => ?_⟩
  have h2 := h1.push (e := e) x1 e0
  rw [← eH] at h2
  have sB : Same H0 H1 := fun c o z => by
    rw [eH, upd_ne (ne_of_none z np)]
    exact sA _ _ z
  obtain ⟨ys0, y01, y02⟩ := h2.len
  refine ⟨⟨ys0, y01⟩, fun u hu => ?_⟩
  have s2 := same_new (o := .tup [.int f.1, .int f.2.1, .int f.2.2]) hu
  have h3 := h2.same s2
  obtain ⟨ys, y1, y2⟩ := h3.len
  have f0 : upd H1 u (.tup [.int f.1, .int f.2.1, .int f.2.2]) u = some (.tup [.int f.1, .int f.2.1, .int f.2.2]) := upd_same
  have sC := same_tr sB s2
  generalize upd H1 u (.tup [.int f.1, .int f.2.1, .int f.2.2]) = HC at s2 h3 y1 f0 sC
  refine ⟨ys, y1, small1000 (by rw [y2, List.length_append]; simp; omega), k _ ?_ fun c o z => ?_⟩
  · have h4 := h3.push (e := f) y1 f0
    rw [List.append_assoc] at h4
    exact h4
  · rw [upd_ne (ne_of_none z np)]
    exact sC _ _ z
def groundE (i t : Int) : List Edge := [(-1, i, t), (i, -1, 0)]
def groundN : Int → List Int → List Edge
  | _, [] => []
  | k, t :: ts => groundE k t ++ groundN (k + 1) ts
theorem groundN_snoc : ∀ (k : Int) (l : List Int) (t : Int), groundN k (l ++ [t]) = groundN k l ++ groundE (k + l.length) t
  | k, [], t => by simp [groundN]
  | k, x :: l, t => by
    have ih := groundN_snoc (k + 1) l t
    show groundE k x ++ groundN (k + 1) (l ++ [t]) = _
    rw [ih]
    show _ = groundE k x ++ groundN (k + 1) l ++ _
    rw [List.append_assoc]
    have e : k + 1 + (l.length : Int) = k + ((x :: l).length : Int) := by rw [List.length_cons]; omega
    rw [e]
theorem groundN_len : ∀ (k : Int) (l : List Int), (groundN k l).length = 2 * l.length
  | _, [] => rfl
  | k, x :: l => by
    have ih := groundN_len (k + 1) l
    show (groundE k x ++ groundN (k + 1) l).length = _
    rw [List.length_append, ih, List.length_cons]
    show 2 + 2 * l.length = _
    omega
def spanE (p w : Int) : List Edge := [(p, p + 1, w), (p + 1, p, w)]
def spanN (sl : Int) : Int → List Int → List Edge
  | _, [] => []
  | p, x :: xs => spanE p (sl * x) ++ spanN sl (p + 1) xs
theorem spanN_snoc (sl : Int) : ∀ (p : Int) (l : List Int) (x : Int), spanN sl p (l ++ [x]) = spanN sl p l ++ spanE (p + l.length) (sl * x)
  | p, [], x => by simp [spanN]
  | p, y :: l, x => by
    have ih := spanN_snoc sl (p + 1) l x
    show spanE p (sl * y) ++ spanN sl (p + 1) (l ++ [x]) = _
    rw [ih]
    show _ = spanE p (sl * y) ++ spanN sl (p + 1) l ++ _
    rw [List.append_assoc]
    have e : p + 1 + (l.length : Int) = p + ((y :: l).length : Int) := by rw [List.length_cons]; omega
    rw [e]
theorem spanN_len (sl : Int) : ∀ (p : Int) (l : List Int), (spanN sl p l).length = 2 * l.length
  | _, [] => rfl
  | p, x :: l => by
    have ih := spanN_len sl (p + 1) l
    show (spanE p (sl * x) ++ spanN sl (p + 1) l).length = _
    rw [List.length_append, ih, List.length_cons]
    show 2 + 2 * l.length = _
    omega
def slopeN : Int → List Wal → List Edge
  | _, [] => []
  | p, w :: ws => spanN w.2.2.1 p w.2.2.2 ++ slopeN (p + w.many) ws
/-- how many places -/
def places : List Wal → Nat
  | [] => 0
  | w :: ws => w.many + places ws
theorem places_snoc : ∀ (l : List Wal) (w : Wal), places (l ++ [w]) = places l + w.many
  | [], w => by simp [places]
  | x :: l, w => by
    show x.many + places (l ++ [w]) = x.many + places l + w.many
    rw [places_snoc l w]
    omega
theorem spots_places : ∀ ws : List Wal, (spotsOf ws).length = places ws
  | [] => rfl
  | w :: ws => by
    have ih := spots_places ws
    unfold spotsOf at ih ⊢
    rw [List.flatMap_cons, List.length_append, ih]
    unfold spotsW
    rw [List.length_map, List.length_range]
    rfl
theorem slopeN_snoc : ∀ (p : Int) (l : List Wal) (w : Wal), slopeN p (l ++ [w]) = slopeN p l ++ spanN w.2.2.1 (p + places l) w.2.2.2
  | p, [], w => by simp [slopeN, places]
  | p, x :: l, w => by
    have ih := slopeN_snoc (p + x.many) l w
    show spanN x.2.2.1 p x.2.2.2 ++ slopeN (p + x.many) (l ++ [w]) = _
    rw [ih]
    show _ = spanN x.2.2.1 p x.2.2.2 ++ slopeN (p + x.many) l ++ _
    rw [List.append_assoc]
    have e : p + (x.many : Int) + (places l : Int) = p + ((places (x :: l) : Nat) : Int) := by show _ = p + ((x.many + places l : Nat) : Int); omega
    rw [e]
theorem slopeN_len : ∀ (p : Int) (l : List Wal), (slopeN p l).length ≤ 2 * places l
  | _, [] => Nat.zero_le _
  | p, x :: l => by
    have ih := slopeN_len (p + x.many) l
    show (spanN x.2.2.1 p x.2.2.2 ++ slopeN (p + x.many) l).length ≤ 2 * (x.many + places l)
    rw [List.length_append, spanN_len]
    have : x.many = x.2.2.2.length + 1 := rfl
    omega
theorem places_take {ws : List Wal} {i : Nat} {w : Wal} (h : ws[i]? = some w) : places (ws.take i) + w.many ≤ places ws := by
  have e : ws = ws.take (i + 1) ++ ws.drop (i + 1) := (List.take_append_drop _ _).symm
  have key : ∀ a b : List Wal, places (a ++ b) = places a + places b := fun a b => by
    induction a with
    | nil => simp [places]
    | cons x a ih =>
      show x.many + places (a ++ b) = x.many + places a + places b
      rw [ih]
      omega
  have e2 : places ws = places (ws.take (i + 1)) + places (ws.drop (i + 1)) := by rw [← key, ← e]
  rw [List.take_succ, h, Option.toList_some, places_snoc] at e2
  omega
/-- a link: two places, the least and the most difference -/
abbrev Lnk := Int × Int × Int × Int
def linkE (l : Lnk) : List Edge := [(l.1, l.2.1, l.2.2.2), (l.2.1, l.1, -l.2.2.1)]
def LnkT (K : PySem.W.Frag) (H : Hp) (t : Addr) (l : Lnk) : Prop := SqT K H t [.int l.1, .int l.2.1, .int l.2.2.1, .int l.2.2.2]
def LnksAt (K : PySem.W.Frag) (H : Hp) (p : Addr) (ls : List Lnk) : Prop := ∃ ts : List Addr, H p = some (.lst (ts.map V.ref)) ∧ ts.length = ls.length ∧ ∀ (i : Nat) (t : Addr) (l : Lnk), ts[i]? = some t → ls[i]? = some l → LnkT K H t l
theorem LnksAt.same {K : PySem.W.Frag} {H H' : Hp} {p : Addr} {ls : List Lnk} (h : LnksAt K H p ls) (s : Same H H') : LnksAt K H' p ls := by
  obtain ⟨ts, h1, h2, h3⟩ := h
  exact ⟨ts, s _ _ h1, h2, fun i t l e1 e2 => sqT_same (h3 i t l e1 e2) s⟩
theorem linkE_len (ls : List Lnk) : (ls.flatMap linkE).length = 2 * ls.length := by
  induction ls with
  | nil => rfl
  | cons l ls ih =>
    rw [List.flatMap_cons, List.length_append, ih, List.length_cons]
    show 2 + 2 * ls.length = _
    omega
structure EdTxt (mg : Str → Option Value) : Prop where
  ground : ∃ t, mg "GROUND" = some (.int (-1) t)
  enumerate : mg "enumerate" = none
def spGrd : Sp := fun vs H Q _ => ∃ (p : Addr) (ts : List Int), vs = [.ref p] ∧ H p = some (.lst (ts.map V.int)) ∧ ts.length ≤ 400 ∧ ∀ (q : Addr) (H' : Hp), H q = none → Same H H' → LimsAt H' q (groundN 0 ts) → Q (.ref q) H'
def spSlp (K : PySem.W.Frag) : Sp := fun vs H Q _ => ∃ (p : Addr) (ws : List Wal), vs = [.ref p] ∧ WalsAt K H p ws ∧ places ws ≤ 400 ∧ (∀ w ∈ ws, Sz w.2.2.1 ∧ ∀ x ∈ w.2.2.2, Sz x) ∧ ∀ (q : Addr) (H' : Hp), H q = none → Same H H' → LimsAt H' q (slopeN 0 ws) → Q (.ref q) H'
def spLnk (K : PySem.W.Frag) : Sp := fun vs H Q _ => ∃ (p : Addr) (ls : List Lnk), vs = [.ref p] ∧ LnksAt K H p ls ∧ ls.length ≤ 400 ∧ ∀ (q : Addr) (H' : Hp), H q = none → Same H H' → LimsAt H' q (ls.flatMap linkE) → Q (.ref q) H'
section
variable {P : Program} {w : World} {K : PySem.W.Frag} {mg : Str → Option Value} {base : Heap}
theorem scGrd : FnScope ["tops", "limits", "place", "top"] ["tops"] (defScope sGrd) := ⟨rfl, rfl, rfl, by decide +kernel, rfl, by decide +kernel, by decide +kernel⟩
theorem scSlp : FnScope ["rows", "limits", "place", "_", "slope", "spans", "span"] ["rows"] (defScope sSlp) := ⟨rfl, rfl, rfl, by decide +kernel, rfl, by decide +kernel, by decide +kernel⟩
theorem scLnk : FnScope ["links", "limits", "first", "second", "least", "most"] ["links"] (defScope sLnk) := ⟨rfl, rfl, rfl, by decide +kernel, rfl, by decide +kernel, by decide +kernel⟩
set_option maxHeartbeats 0 in
theorem ok_grd {f : Addr} {fd : FuncData} (F : Fun K "_ground_limits" "_ground_limits" sGrd f fd) (T : EdTxt mg) : FnOk P w K mg base CX0 1 f fd ["tops"] spGrd := by
  obtain ⟨tk, hgr⟩ := T.ground
  have hen := T.enumerate
  refine F.ok scGrd (fun vs H Q E h => ?_) (fun cdv A outer s H vs Q E hr h => ?_)
  · obtain ⟨p, ts, rfl, _⟩ := h
    rfl
  · obtain ⟨p, ts, rfl, hp, l4, k⟩ := h
    refine ⟨_, (pss_cons (ps_set (i := 1) scGrd.nd rfl (Or.inl rfl) (pe_lst pa_nil))
      (pss_cons (ps_for PassesOwn.never rfl (pi_enum (by rfl) hen (pa_cons (pv 0) pa_nil)) (pg_tup (by rfl) (pgs_cons (pg_name (i := 2) scGrd.nd rfl (Or.inl rfl)) (pgs_cons (pg_name (i := 3) scGrd.nd rfl (Or.inl rfl)) pgs_nil))) (pss_cons (ps_expr (pe_bm PySem.F.plainAttrs_list PySem.F.slot_list_append PySem.F.type_list_append mt_append (pv 1) (pa_cons (pe_tup (pa_cons (pe_glob (v := .int (-1)) rfl hgr ⟨_, rfl⟩) (pa_cons (pv 2) (pa_cons (pv 3) pa_nil)))) pa_nil)))
      (pss_one (ps_expr (pe_bm PySem.F.plainAttrs_list PySem.F.slot_list_append PySem.F.type_list_append mt_append (pv 1) (pa_cons (pe_tup (pa_cons (pv 2) (pa_cons (pe_glob (v := .int (-1)) rfl hgr ⟨_, rfl⟩) (pa_cons pe_int pa_nil)))) pa_nil))))))
      (pss_one (ps_ret (pv 1))))), ?_⟩
    refine ⟨by show 0 ≤ sizeLine; decide, fun D hD => ?_⟩
    have S1 := same_new (o := .lst []) hD
    refine ⟨_, rfl, p, _, rfl, SqL.of (S1 _ _ hp), ?_⟩
    refine for_it (walk_enum (xs := ts.map V.int)) (fun i σ' H' => ∃ v2 v3 : Option V, σ' = [some (.ref p), some (.ref D), v2, v3] ∧ LimsAt H' D (groundN 0 (ts.take i)) ∧ Same H H')
      ⟨_, _, rfl, ⟨[], upd_same, rfl, fun i t e z => by cases z⟩, S1⟩ (fun i σ' H' _ h => by obtain ⟨_, _, _, _, z⟩ := h; exact SqL.of (z _ _ hp)) ?_ ?_
    · rintro i x σ' H1 H2 hi ⟨v2, v3, rfl, L, S⟩ ⟨T0, x0, y0, rfl, hT, rfl, hx, hy⟩
      cases hx
      rw [List.length_map] at hi
      have hy : (ts.map V.int)[i]? = some y0 := hy
      rw [List.getElem?_map, List.getElem?_eq_getElem hi] at hy
      cases hy
      have sT := same_new (o := .tup [V.int (i : Nat), V.int ts[i]]) hT
      refine ⟨T0, _, rfl, SqT.of upd_same, rfl, _, _, rfl, _, _, rfl, rfl, ?_⟩
      have L2 := L.same sT
      have S2 := same_tr S sT
      generalize upd H1 T0 (.tup [V.int (i : Nat), V.int ts[i]]) = H2 at L2 S2
      obtain ⟨zs, z1, z2⟩ := L2.len
      have et : groundN 0 (ts.take (i + 1)) = groundN 0 (ts.take i) ++ [((-1 : Int), ((i : Nat) : Int), ts[i]), (((i : Nat) : Int), (-1 : Int), (0 : Int))] := by
        rw [List.take_succ, List.getElem?_eq_getElem hi, Option.toList_some, groundN_snoc, List.length_take, show min i ts.length = i by omega, Int.zero_add]
        rfl
      have pp := push2 (H0 := H) (Q := fun H' => ∃ v2 v3 : Option V, [some (.ref p), some (.ref D), some (.int ((i : Nat) : Int)), some (.int ts[i])] = [some (.ref p), some (.ref D), v2, v3] ∧ LimsAt H' D (groundN 0 (ts.take (i + 1))) ∧ Same H H')
        ((-1 : Int), ((i : Nat) : Int), ts[i]) (((i : Nat) : Int), (-1 : Int), (0 : Int)) L2 S2 hD (by rw [groundN_len, List.length_take]; omega) (fun H' l s => ⟨_, _, rfl, by rw [et]; exact l, s⟩)
      refine ⟨_, rfl, .inl ⟨rfl, _, SqL.of z1⟩, _, rfl, _, rfl, by show 3 ≤ sizeLine; decide, fun t ht => ?_⟩
      obtain ⟨xs, x1, x2, x3⟩ := pp t ht
      refine ⟨D, xs, _, rfl, rfl, x1, x2, ?_⟩
      obtain ⟨⟨ys, y1⟩, y2⟩ := x3 _ rfl
      refine ⟨_, rfl, .inl ⟨rfl, _, SqL.of y1⟩, _, rfl, by show 3 ≤ sizeLine; decide, fun u hu => ?_⟩
      obtain ⟨ys', w1, w2, w3⟩ := y2 u hu
      exact ⟨D, ys', _, rfl, rfl, w1, w2, w3⟩
    · rintro σ' H1 ⟨v2, v3, rfl, L, S⟩
      rw [List.length_map, List.take_length] at L
      exact ⟨_, rfl, k D H1 hD S L⟩
set_option maxHeartbeats 0 in
theorem ok_lnk {f : Addr} {fd : FuncData} (F : Fun K "_link_limits" "_link_limits" sLnk f fd) : FnOk P w K mg base CX0 1 f fd ["links"] (spLnk K) := by
  refine F.ok scLnk (fun vs H Q E h => ?_) (fun cdv A outer s H vs Q E hr h => ?_)
  · obtain ⟨p, ls, rfl, _⟩ := h
    rfl
  · obtain ⟨p, ls, rfl, hL, l4, k⟩ := h
    refine ⟨_, (pss_cons (ps_set (i := 1) scLnk.nd rfl (Or.inl rfl) (pe_lst pa_nil))
      (pss_cons (ps_for PassesOwn.never rfl (pi_list (pv 0)) (pg_tup (by rfl) (pgs_cons (pg_name (i := 2) scLnk.nd rfl (Or.inl rfl)) (pgs_cons (pg_name (i := 3) scLnk.nd rfl (Or.inl rfl)) (pgs_cons (pg_name (i := 4) scLnk.nd rfl (Or.inl rfl)) (pgs_cons (pg_name (i := 5) scLnk.nd rfl (Or.inl rfl)) pgs_nil))))) (pss_cons (ps_expr (pe_bm PySem.F.plainAttrs_list PySem.F.slot_list_append PySem.F.type_list_append mt_append (pv 1) (pa_cons (pe_tup (pa_cons (pv 2) (pa_cons (pv 3) (pa_cons (pv 5) pa_nil)))) pa_nil)))
      (pss_one (ps_expr (pe_bm PySem.F.plainAttrs_list PySem.F.slot_list_append PySem.F.type_list_append mt_append (pv 1) (pa_cons (pe_tup (pa_cons (pv 3) (pa_cons (pv 2) (pa_cons (pe_un un_neg (pv 4)) pa_nil)))) pa_nil))))))
      (pss_one (ps_ret (pv 1))))), ?_⟩
    refine ⟨by show 0 ≤ sizeLine; decide, fun D hD => ?_⟩
    have S1 := same_new (o := .lst []) hD
    obtain ⟨ts, t1, t2, t3⟩ := id hL
    refine ⟨_, rfl, p, rfl, ⟨_, SqL.of (S1 _ _ t1)⟩, ?_⟩
    refine for_it (walk_list (xs := ts.map V.ref)) (fun i σ' H' => ∃ v2 v3 v4 v5 : Option V, σ' = [some (.ref p), some (.ref D), v2, v3, v4, v5] ∧ LimsAt H' D ((ls.take i).flatMap linkE) ∧ Same H H')
      ⟨_, _, _, _, rfl, ⟨[], upd_same, rfl, fun i t e z => by cases z⟩, S1⟩ (fun i σ' H' _ h => by obtain ⟨_, _, _, _, _, _, z⟩ := h; exact SqL.of (z _ _ t1)) ?_ ?_
    · rintro i x σ' H1 H2 hi ⟨v2, v3, v4, v5, rfl, L, S⟩ ⟨rfl, hx⟩
      rw [List.length_map] at hi
      rw [List.getElem?_map, List.getElem?_eq_getElem hi] at hx
      cases hx
      obtain ⟨⟨a, b, least, most⟩, hl⟩ : ∃ l, ls[i]? = some l := ⟨_, List.getElem?_eq_getElem (by omega)⟩
      have z := sqT_same (t3 i _ _ (List.getElem?_eq_getElem hi) hl) S
      refine ⟨_, _, rfl, z, rfl, _, _, rfl, _, _, rfl, _, _, rfl, _, _, rfl, rfl, ?_⟩
      obtain ⟨zs, z1, z2⟩ := L.len
      have et : (ls.take (i + 1)).flatMap linkE = (ls.take i).flatMap linkE ++ [(a, b, most), (b, a, -least)] := by
        rw [List.take_succ, hl, List.flatMap_append]
        simp [linkE]
      have pp := push2 (H0 := H) (Q := fun H' => ∃ v2 v3 v4 v5 : Option V, [some (.ref p), some (.ref D), some (.int a), some (.int b), some (.int least), some (.int most)] = [some (.ref p), some (.ref D), v2, v3, v4, v5] ∧ LimsAt H' D ((ls.take (i + 1)).flatMap linkE) ∧ Same H H')
        (a, b, most) (b, a, -least) L S hD (by rw [linkE_len, List.length_take]; omega) (fun H' l s => ⟨_, _, _, _, rfl, by rw [et]; exact l, s⟩)
      refine ⟨_, rfl, .inl ⟨rfl, _, SqL.of z1⟩, _, rfl, _, rfl, _, rfl, by show 3 ≤ sizeLine; decide, fun t ht => ?_⟩
      obtain ⟨xs, x1, x2, x3⟩ := pp t ht
      refine ⟨D, xs, _, rfl, rfl, x1, x2, ?_⟩
      obtain ⟨⟨ys, y1⟩, y2⟩ := x3 _ rfl
      refine ⟨_, rfl, .inl ⟨rfl, _, SqL.of y1⟩, _, rfl, _, rfl, _, rfl, least, rfl, by show 3 ≤ sizeLine; decide, fun u hu => ?_⟩
      obtain ⟨ys', w1, w2, w3⟩ := y2 u hu
      exact ⟨D, ys', _, rfl, rfl, w1, w2, w3⟩
    · rintro σ' H1 ⟨v2, v3, v4, v5, rfl, L, S⟩
      rw [List.length_map, t2, List.take_length] at L
      exact ⟨_, rfl, k D H1 hD S L⟩
set_option maxHeartbeats 0 in
theorem ok_slp {f : Addr} {fd : FuncData} (F : Fun K "_slope_limits" "_slope_limits" sSlp f fd) : FnOk P w K mg base CX0 1 f fd ["rows"] (spSlp K) := by
  refine F.ok scSlp (fun vs H Q E h => ?_) (fun cdv A outer s H vs Q E hr h => ?_)
  · obtain ⟨p, ws, rfl, _⟩ := h
    rfl
  · obtain ⟨p, ws, rfl, hW, l4, hz, k⟩ := h
    refine ⟨_, (pss_cons (ps_set (i := 1) scSlp.nd rfl (Or.inl rfl) (pe_lst pa_nil))
      (pss_cons (ps_set (i := 2) scSlp.nd rfl (Or.inl rfl) pe_int)
      (pss_cons (ps_for PassesOwn.never rfl (pi_list (pv 0)) (pg_tup (by rfl) (pgs_cons (pg_name (i := 3) scSlp.nd rfl (Or.inl rfl)) (pgs_cons (pg_name (i := 3) scSlp.nd rfl (Or.inl rfl)) (pgs_cons (pg_name (i := 4) scSlp.nd rfl (Or.inl rfl)) (pgs_cons (pg_name (i := 5) scSlp.nd rfl (Or.inl rfl)) pgs_nil))))) (pss_cons (ps_for PassesOwn.never rfl (pi_tup (pv 5)) (pg_name (i := 6) scSlp.nd rfl (Or.inl rfl)) (pss_cons (ps_expr (pe_bm PySem.F.plainAttrs_list PySem.F.slot_list_append PySem.F.type_list_append mt_append (pv 1) (pa_cons (pe_tup (pa_cons (pv 2) (pa_cons (pe_op op_add (pv 2) pe_int) (pa_cons (pe_op op_mulW (pv 4) (pv 6)) pa_nil)))) pa_nil)))
      (pss_cons (ps_expr (pe_bm PySem.F.plainAttrs_list PySem.F.slot_list_append PySem.F.type_list_append mt_append (pv 1) (pa_cons (pe_tup (pa_cons (pe_op op_add (pv 2) pe_int) (pa_cons (pv 2) (pa_cons (pe_op op_mulW (pv 4) (pv 6)) pa_nil)))) pa_nil)))
      (pss_one (ps_aug (i := 2) scSlp.nd rfl (Or.inl rfl) pe_int ip_add)))))
      (pss_one (ps_aug (i := 2) scSlp.nd rfl (Or.inl rfl) pe_int ip_add))))
      (pss_one (ps_ret (pv 1)))))), ?_⟩
    refine ⟨by show 0 ≤ sizeLine; decide, fun D hD => ?_⟩
    have S1 := same_new (o := .lst []) hD
    obtain ⟨ts, t1, t2, t3⟩ := id hW
    refine ⟨_, rfl, p, rfl, ⟨_, SqL.of (S1 _ _ t1)⟩, ?_⟩
    refine for_it (walk_list (xs := ts.map V.ref)) (fun i σ' H' => ∃ v3 v4 v5 v6 : Option V, σ' = [some (.ref p), some (.ref D), some (.int (places (ws.take i) : Nat)), v3, v4, v5, v6] ∧ LimsAt H' D (slopeN 0 (ws.take i)) ∧ Same H H')
      ⟨_, _, _, _, rfl, ⟨[], upd_same, rfl, fun i t e z => by cases z⟩, S1⟩ (fun i σ' H' _ h => by obtain ⟨_, _, _, _, _, _, z⟩ := h; exact SqL.of (z _ _ t1)) ?_ ?_
    · rintro i x σ' H1 H2 hi ⟨v3, v4, v5, v6, rfl, L, S⟩ ⟨rfl, hx⟩
      rw [List.length_map] at hi
      rw [List.getElem?_map, List.getElem?_eq_getElem hi] at hx
      cases hx
      obtain ⟨⟨nm, tp, sl, spans⟩, hw⟩ : ∃ l, ws[i]? = some l := ⟨_, List.getElem?_eq_getElem (by omega)⟩
      obtain ⟨sp, z1H, z2H⟩ := t3 i _ _ (List.getElem?_eq_getElem hi) hw
      have z1 := S _ _ z1H
      have z2 := sqT_same z2H S
      obtain ⟨hs1, hs2⟩ := hz _ (List.mem_of_getElem? hw)
      have pt := places_take hw
      have pm : Wal.many (nm, tp, sl, spans) = spans.length + 1 := rfl
      have pl := slopeN_len 0 (ws.take i)
      refine ⟨_, _, rfl, SqT.of z1, rfl, _, _, rfl, _, _, rfl, _, _, rfl, _, _, rfl, rfl, ?_⟩
      have et : slopeN 0 (ws.take (i + 1)) = slopeN 0 (ws.take i) ++ spanN sl (places (ws.take i) : Nat) spans := by
        rw [List.take_succ, hw, Option.toList_some, slopeN_snoc, Int.zero_add]
      refine ⟨_, rfl, sp, rfl, ⟨_, z2⟩, ?_⟩
      refine for_it (walk_tup (xs := spans.map V.int)) (fun m σ' H' => ∃ v3 v6 : Option V, σ' = [some (.ref p), some (.ref D), some (.int ((places (ws.take i) : Nat) + (m : Nat))), v3, some (.int sl), some (.ref sp), v6] ∧ LimsAt H' D (slopeN 0 (ws.take i) ++ spanN sl (places (ws.take i) : Nat) (spans.take m)) ∧ Same H H' ∧ SqT K H' sp (spans.map V.int))
        ⟨some (.int tp), v6, by simp, by rw [List.take_zero]; simpa [spanN] using L, S, z2⟩ (fun m σ' H' _ h => by obtain ⟨_, _, _, _, _, z⟩ := h; exact z) ?_ ?_
      · rintro m x σ' H3 H4 hm ⟨v3, v6, rfl, L3, S3, z3⟩ ⟨rfl, hx⟩
        rw [List.length_map] at hm
        rw [List.getElem?_map, List.getElem?_eq_getElem hm] at hx
        cases hx
        obtain ⟨zs, q1, q2⟩ := L3.len
        have em : spanN sl (places (ws.take i) : Nat) (spans.take (m + 1)) = spanN sl (places (ws.take i) : Nat) (spans.take m) ++ [(((places (ws.take i) : Nat) : Int) + (m : Nat), ((places (ws.take i) : Nat) : Int) + (m : Nat) + 1, sl * spans[m]), (((places (ws.take i) : Nat) : Int) + (m : Nat) + 1, ((places (ws.take i) : Nat) : Int) + (m : Nat), sl * spans[m])] := by
          rw [List.take_succ, List.getElem?_eq_getElem hm, Option.toList_some, spanN_snoc, List.length_take, show min m spans.length = m by omega]
          rfl
        have cm : CMulW sl spans[m] := Sz.mul hs1.w (hs2 _ (List.getElem_mem hm)).w
        have pp := push2 (H0 := H) (Q := fun H' => LimsAt H' D (slopeN 0 (ws.take i) ++ spanN sl (places (ws.take i) : Nat) (spans.take (m + 1))) ∧ Same H H')
          (((places (ws.take i) : Nat) : Int) + (m : Nat), ((places (ws.take i) : Nat) : Int) + (m : Nat) + 1, sl * spans[m]) (((places (ws.take i) : Nat) : Int) + (m : Nat) + 1, ((places (ws.take i) : Nat) : Int) + (m : Nat), sl * spans[m]) L3 S3 hD
          (by rw [List.length_append, spanN_len, List.length_take]; omega) (fun H' l s => ⟨by rw [em, ← List.append_assoc]; exact l, s⟩)
        refine ⟨_, rfl, .inl ⟨rfl, _, SqL.of q1⟩, _, rfl, _, rfl, _, _, rfl, rfl, _, rfl, _, rfl, _, _, rfl, rfl, cm, by show 3 ≤ sizeLine; decide, fun t ht => ?_⟩
        obtain ⟨xs, x1, x2, x3⟩ := pp t ht
        refine ⟨D, xs, _, rfl, rfl, x1, x2, ?_⟩
        obtain ⟨⟨ys, y1⟩, y2⟩ := x3 _ rfl
        refine ⟨_, rfl, .inl ⟨rfl, _, SqL.of y1⟩, _, rfl, _, _, rfl, rfl, _, rfl, _, rfl, _, rfl, _, _, rfl, rfl, cm, by show 3 ≤ sizeLine; decide, fun u hu => ?_⟩
        obtain ⟨ys', w1, w2, w3, w4⟩ := y2 u hu
        refine ⟨D, ys', _, rfl, rfl, w1, w2, ?_⟩
        refine ⟨_, rfl, _, _, rfl, rfl, v3, some (.int spans[m]), ?_, w3, w4, sqT_same z2H w4⟩
        have e1 : ((places (ws.take i) : Nat) : Int) + (m : Nat) + 1 = ((places (ws.take i) : Nat) : Int) + ((m + 1 : Nat) : Nat) := by omega
        rw [← e1]
        rfl
      · rintro σ' H3 ⟨v3, v6, rfl, L3, S3, z3⟩
        rw [List.length_map, List.take_length] at L3
        refine ⟨_, rfl, _, _, rfl, rfl, v3, some (.int sl), some (.ref sp), v6, ?_, by rw [et]; exact L3, S3⟩
        have e1 : ((places (ws.take i) : Nat) : Int) + ((spans.map V.int).length : Nat) + 1 = ((places (ws.take (i + 1)) : Nat) : Int) := by
          rw [List.take_succ, hw, Option.toList_some, places_snoc, pm, List.length_map]
          omega
        rw [← e1]
        rfl
    · rintro σ' H1 ⟨v3, v4, v5, v6, rfl, L, S⟩
      rw [List.length_map, t2, List.take_length] at L
      exact ⟨_, rfl, k D H1 hD S L⟩
end
end Law

/-! The told limits: the least of the limits between two nodes, in a dict with tuple keys. -/
namespace Law
open PySem PySem.Spec PyProof.Rows L2 Sup
abbrev sTold : Stmt := top 23
def keyT (e : Edge) : List Key := [.inl e.1, .inl e.2.1]
def kvT (es : List Edge) : List (List Key × V) := es.map fun e => (keyT e, .int e.2.2)
def likeE (e x : Edge) : Bool := decide (x.1 = e.1 ∧ x.2.1 = e.2.1)
def putE (es : List Edge) (e : Edge) : List Edge := if es.any (likeE e) = true then es.map (fun x => if likeE e x = true then e else x) else es ++ [e]
/-- one limit is told -/
def tell (es : List Edge) (e : Edge) : List Edge := match es.find? (likeE e) with
  | none => putE es e
  | some x => if e.2.2 < x.2.2 then putE es e else es
theorem keyT_eq (e x : Edge) : decide (keyT x = keyT e) = likeE e x := by
  unfold keyT likeE
  refine decide_eq_decide.mpr ⟨fun h => ?_, fun h => by rw [h.1, h.2]⟩
  injection h with h1 h2
  injection h2 with h2 _
  exact ⟨Sum.inl.inj h1, Sum.inl.inj h2⟩
theorem val_kvT (e : Edge) : ∀ es : List Edge, valV (kvT es) (keyT e) = (es.find? (likeE e)).map fun x => V.int x.2.2
  | [] => rfl
  | x :: es => by
    have ih := val_kvT e es
    have q := keyT_eq e x
    show valV ((keyT x, V.int x.2.2) :: kvT es) (keyT e) = _
    rw [List.find?_cons]
    cases c : likeE e x with
    | true =>
      rw [c] at q
      rw [valV_pos (of_decide_eq_true q)]
      rfl
    | false =>
      rw [c] at q
      rw [valV_neg (of_decide_eq_false q), ih]
theorem put_kvT (es : List Edge) (e : Edge) : putK (kvT es) (keyT e) (.int e.2.2) = kvT (putE es e) := by
  unfold putK putE
  have a : ((kvT es).any fun kv => decide (kv.1 = keyT e)) = es.any (likeE e) := by
    unfold kvT
    rw [List.any_map]
    congr 1
    funext x
    exact keyT_eq e x
  rw [a]
  by_cases c : es.any (likeE e) = true
  · rw [if_pos c, if_pos c]
    unfold kvT
    rw [List.map_map, List.map_map]
    refine List.map_congr_left fun x _ => ?_
    show (if keyT x = keyT e then (keyT x, V.int e.2.2) else (keyT x, V.int x.2.2)) = (fun e : Edge => (keyT e, V.int e.2.2)) (if likeE e x = true then e else x)
    have q := keyT_eq e x
    by_cases h : likeE e x = true
    · rw [h] at q
      rw [if_pos h, if_pos (of_decide_eq_true q), of_decide_eq_true q]
    · rw [Bool.eq_false_iff.mpr h] at q
      rw [if_neg h, if_neg (of_decide_eq_false q)]
  · rw [if_neg c, if_neg c]
    unfold kvT
    rw [List.map_append]
    rfl
theorem putE_len (es : List Edge) (e : Edge) : (putE es e).length ≤ es.length + 1 := by
  unfold putE
  split
  · rw [List.length_map]
    omega
  · rw [List.length_append]
    exact Nat.le_refl _
theorem tell_len (es : List Edge) (e : Edge) : (tell es e).length ≤ es.length + 1 := by
  unfold tell
  split
  · exact putE_len es e
  · split
    · exact putE_len es e
    · omega
theorem fold_len : ∀ (fs es : List Edge), (fs.foldl tell es).length ≤ es.length + fs.length
  | [], es => Nat.le_refl _
  | f :: fs, es => by
    have h1 := fold_len fs (tell es f)
    have h2 := tell_len es f
    rw [List.length_cons]
    show (fs.foldl tell (tell es f)).length ≤ _
    omega
theorem LimsAt.sameB {H H' : Hp} {p D : Addr} {es : List Edge} {kv : List (List Key × V)} (h : LimsAt H p es) (hD : H D = some (.dT kv)) (s : SameB D H H') : LimsAt H' p es := by
  obtain ⟨ts, h1, h2, h3⟩ := h
  refine ⟨ts, s _ _ (fun z => by rw [z, hD] at h1; cases h1) h1, h2, fun i t e e1 e2 => ?_⟩
  have z := h3 i t e e1 e2
  exact s _ _ (fun w => by rw [w, hD] at z; cases z) z
/-- all the limits that rows, tops and links tell -/
def limsOf (ws : List Wal) (ls : List Lnk) : List Edge := groundN 0 (topsOf ws) ++ slopeN 0 ws ++ ls.flatMap linkE
def toldOf (ws : List Wal) (ls : List Lnk) : List Edge := (limsOf ws ls).foldl tell []
theorem lims_len (ws : List Wal) (ls : List Lnk) : (limsOf ws ls).length ≤ 4 * places ws + 2 * ls.length := by
  unfold limsOf
  rw [List.length_append, List.length_append, groundN_len, linkE_len, tops_len, spots_places]
  have := slopeN_len 0 ws
  omega
structure ToTxt (mg : Str → Option Value) (fGr fSl fLk : Addr) : Prop where
  grd : mg "_ground_limits" = some (.ref fGr)
  slp : mg "_slope_limits" = some (.ref fSl)
  lnk : mg "_link_limits" = some (.ref fLk)
def spTold (K : PySem.W.Frag) : Sp := fun vs H Q _ => ∃ (p1 p2 p3 : Addr) (ws : List Wal) (ls : List Lnk), vs = [.ref p1, .ref p2, .ref p3] ∧ WalsAt K H p1 ws ∧ H p2 = some (.lst ((topsOf ws).map V.int)) ∧ LnksAt K H p3 ls ∧ places ws ≤ 150 ∧ ls.length ≤ 100 ∧ (∀ w ∈ ws, Sz w.2.2.1 ∧ ∀ x ∈ w.2.2.2, Sz x) ∧
  ∀ (q : Addr) (H' : Hp), H q = none → Same H H' → H' q = some (.dT (kvT (toldOf ws ls))) → Q (.ref q) H'
section
variable {P : Program} {w : World} {K : PySem.W.Frag} {mg : Str → Option Value} {base : Heap}
theorem scTold : FnScope ["rows", "tops", "links", "told", "limits", "first", "second", "most", "known"] ["rows", "tops", "links"] (defScope sTold) := ⟨rfl, rfl, rfl, by decide +kernel, rfl, by decide +kernel, by decide +kernel⟩
set_option maxHeartbeats 0 in
theorem ok_told {f fGr fSl fLk : Addr} {fd fdGr fdSl fdLk : FuncData} (F : Fun K "_told_limits" "_told_limits" sTold f fd) (T : ToTxt mg fGr fSl fLk) (GGr : FnOk P w K mg base CX0 1 fGr fdGr ["tops"] spGrd) (FGr : Fun K "_ground_limits" "_ground_limits" sGrd fGr fdGr) (bGr : Binds K fdGr ["tops"] [])
    (GSl : FnOk P w K mg base CX0 1 fSl fdSl ["rows"] (spSlp K)) (FSl : Fun K "_slope_limits" "_slope_limits" sSlp fSl fdSl) (bSl : Binds K fdSl ["rows"] [])
    (GLk : FnOk P w K mg base CX0 1 fLk fdLk ["links"] (spLnk K)) (FLk : Fun K "_link_limits" "_link_limits" sLnk fLk fdLk) (bLk : Binds K fdLk ["links"] []) : FnOk P w K mg base CX0 2 f fd ["rows", "tops", "links"] (spTold K) := by
  refine F.ok scTold (fun vs H Q E h => ?_) (fun cdv A outer s H vs Q E hr h => ?_)
  · obtain ⟨p1, p2, p3, ws, ls, rfl, _⟩ := h
    rfl
  · obtain ⟨p1, p2, p3, ws, ls, rfl, hW, hT, hL, l1, l2, hz, k⟩ := h
    have hr1 : Room 1 _ := hr.mono (by decide)
    refine ⟨_, (pss_cons (ps_set (i := 3) scTold.nd rfl (Or.inl rfl) pe_dnewT)
      (pss_cons (ps_set (i := 4) scTold.nd rfl (Or.inl rfl) (pe_op op_cat (pe_op op_cat (pe_call GGr hr1 rfl T.grd FGr.kp bGr .nil pass0 (pa_cons (pv 1) pa_nil)) (pe_call GSl hr1 rfl T.slp FSl.kp bSl .nil pass0 (pa_cons (pv 0) pa_nil))) (pe_call GLk hr1 rfl T.lnk FLk.kp bLk .nil pass0 (pa_cons (pv 2) pa_nil))))
      (pss_cons (ps_for PassesOwn.never rfl (pi_list (pv 4)) (pg_tup (by rfl) (pgs_cons (pg_name (i := 5) scTold.nd rfl (Or.inl rfl)) (pgs_cons (pg_name (i := 6) scTold.nd rfl (Or.inl rfl)) (pgs_cons (pg_name (i := 7) scTold.nd rfl (Or.inl rfl)) pgs_nil)))) (pss_cons (ps_set (i := 8) scTold.nd rfl (Or.inl rfl) (pe_dget1 (hu_of hr) (pv 3) (pe_tup (pa_cons (pv 5) (pa_cons (pv 6) pa_nil))) ⟨rfl, rfl, rfl, rfl⟩))
      (pss_one (ps_if (PW.pt (pw_or (pt_cmpR op_isN (pv 8) pe_non (nomark _)) (pw_or1 (pt_cmpR op_lt (pv 7) (pv 8) (nomark _))))) (pss_one (ps_dput (hu_of hr) (pv 3) (pe_tup (pa_cons (pv 5) (pa_cons (pv 6) pa_nil))) (pv 7) rfl)) pss_nil))))
      (pss_one (ps_ret (pv 3)))))), ?_⟩
    refine fun D hD => ?_
    have S1 := same_new (o := .dT []) hD
    have e1 : upd H D (.dT []) D = some (.dT []) := upd_same
    generalize upd H D (.dT []) = H1 at S1 e1
    have tl := tops_len ws
    rw [spots_places] at tl
    refine ⟨_, rfl, p2, topsOf ws, rfl, S1 _ _ hT, by omega, fun a Ha na sa La => ?_⟩
    refine ⟨_, rfl, p1, ws, rfl, (hW.same S1).same sa, by omega, hz, fun b Hb nb sb Lb => ?_⟩
    have La2 := La.same sb
    obtain ⟨xs, x1, x2⟩ := La2.len
    obtain ⟨ys, y1, y2⟩ := Lb.len
    have sl := slopeN_len 0 ws
    rw [groundN_len] at x2
    refine ⟨a, b, xs, ys, rfl, rfl, x1, y1, by rw [sizeLine_eq]; omega, fun c hc => ?_⟩
    have Lc := La2.cat Lb x1 y1 hc
    have sc := same_new (o := .lst (xs ++ ys)) hc
    have S2 := same_tr (same_tr (same_tr S1 sa) sb) sc
    have e2 := sc _ _ (sb _ _ (sa _ _ e1))
    generalize upd Hb c (.lst (xs ++ ys)) = H2 at Lc S2 e2
    refine ⟨_, rfl, p3, ls, rfl, hL.same S2, by omega, fun d Hd nd sd Ld => ?_⟩
    have Lc2 := Lc.same sd
    obtain ⟨us, u1, u2⟩ := Lc2.len
    obtain ⟨vs, v1, v2⟩ := Ld.len
    rw [linkE_len] at v2
    rw [List.length_append, groundN_len] at u2
    refine ⟨c, d, us, vs, rfl, rfl, u1, v1, by rw [sizeLine_eq]; omega, fun lp hlp => ?_⟩
    have LL := Lc2.cat Ld u1 v1 hlp
    have sl' := same_new (o := .lst (us ++ vs)) hlp
    have S3 := same_tr (same_tr S2 sd) sl'
    have e3 := sl' _ _ (sd _ _ e2)
    generalize upd Hd lp (.lst (us ++ vs)) = H3 at LL S3 e3
    have LL : LimsAt H3 lp (limsOf ws ls) := LL
    have ll := lims_len ws ls
    generalize hes : limsOf ws ls = es at LL ll
    obtain ⟨ts, t1, t2, t3⟩ := id LL
    refine ⟨_, rfl, lp, rfl, ⟨_, SqL.of t1⟩, ?_⟩
    have nlD : lp ≠ D := fun z => by rw [z, e3] at t1; cases t1
    refine for_it (walk_list (xs := ts.map V.ref)) (fun i σ' H' => ∃ v5 v6 v7 v8 : Option V, σ' = [some (.ref p1), some (.ref p2), some (.ref p3), some (.ref D), some (.ref lp), v5, v6, v7, v8] ∧ H' D = some (.dT (kvT ((es.take i).foldl tell []))) ∧ SameB D H3 H')
      ⟨_, _, _, _, rfl, e3, SameB.of_same same_rfl⟩ (fun i σ' H' _ h => by obtain ⟨_, _, _, _, _, _, z⟩ := h; exact SqL.of (z _ _ nlD t1)) ?_ ?_
    · rintro i x σ' H4 H5 hi ⟨v5, v6, v7, v8, rfl, eD, S⟩ ⟨rfl, hx⟩
      rw [List.length_map] at hi
      rw [List.getElem?_map, List.getElem?_eq_getElem hi] at hx
      cases hx
      obtain ⟨⟨u, v, m⟩, hl⟩ : ∃ l, es[i]? = some l := ⟨_, List.getElem?_eq_getElem (by omega)⟩
      have z0 := t3 i _ _ (List.getElem?_eq_getElem hi) hl
      have z := S _ _ (fun w => by rw [w, e3] at z0; cases z0) z0
      have et : (es.take (i + 1)).foldl tell [] = tell ((es.take i).foldl tell []) (u, v, m) := by
        rw [List.take_succ, hl, Option.toList_some, List.foldl_append]
        rfl
      have fl := fold_len (es.take i) []
      rw [List.length_take] at fl
      have fl : ((es.take i).foldl tell []).length ≤ 900 := by simp only [List.length_nil] at fl; omega
      generalize (es.take i).foldl tell [] = acc at eD et fl
      refine ⟨_, _, rfl, SqT.of z, rfl, _, _, rfl, _, _, rfl, _, _, rfl, rfl, ?_⟩
      refine ⟨_, rfl, D, rfl, .inr ⟨_, .inl eD⟩, _, rfl, _, rfl, by show 2 ≤ sizeLine; decide, fun kt hkt => ?_⟩
      have sk := same_new (o := .tup [V.int u, V.int v]) hkt
      have eD2 := sk _ _ eD
      have ek : upd H5 kt (.tup [V.int u, V.int v]) kt = some (.tup ((keyT (u, v, m)).map kV)) := upd_same
      have S2 : SameB D H3 (upd H5 kt (.tup [V.int u, V.int v])) := S.trans (SameB.of_same sk)
      generalize upd H5 kt (.tup [V.int u, V.int v]) = H6 at eD2 ek S2
      refine ⟨_, DGet.t eD2 ek, ?_⟩
      rw [val_kvT]
      -- the limit is put
      have puts : ∀ {Q : Hp → Prop}, (∀ H', H' D = some (.dT (kvT (putE acc (u, v, m)))) → SameB D H3 H' → Q H') → ∀ kt2, H6 kt2 = none → ∃ H7, DPut (upd H6 kt2 (.tup [V.int u, V.int v])) D (.ref kt2) (.int m) H7 ∧ Q H7 := fun {Q} kq kt2 hk2 => by
        have s7 := same_new (o := .tup [V.int u, V.int v]) hk2
        have eD7 := s7 _ _ eD2
        have ek7 : upd H6 kt2 (.tup [V.int u, V.int v]) kt2 = some (.tup ((keyT (u, v, m)).map kV)) := upd_same
        have S7 : SameB D H3 (upd H6 kt2 (.tup [V.int u, V.int v])) := S2.trans (SameB.of_same s7)
        generalize upd H6 kt2 (.tup [V.int u, V.int v]) = H7 at eD7 ek7 S7
        refine ⟨_, DPut.t eD7 ek7 (by unfold kvT; rw [List.length_map, sizeLine_eq]; omega), kq _ ?_ fun c o n e => ?_⟩
        · rw [upd_same]
          have pk := put_kvT acc (u, v, m)
          dsimp only at pk
          rw [pk]
        · rw [upd_ne n]
          exact S7 _ _ n e
      cases hf : acc.find? (likeE (u, v, m)) with
      | none =>
        have te : tell acc (u, v, m) = putE acc (u, v, m) := by unfold tell; rw [hf]
        refine ⟨_, rfl, rfl, _, rfl, if_t (by simp) ?_⟩
        refine ⟨_, rfl, _, rfl, _, rfl, _, rfl, by show 2 ≤ sizeLine; decide, fun kt2 hk2 => ?_⟩
        obtain ⟨H7, w1, w2⟩ := puts (Q := fun H' => ∃ v5 v6 v7 v8 : Option V, [some (.ref p1), some (.ref p2), some (.ref p3), some (.ref D), some (.ref lp), some (.int u), some (.int v), some (.int m), some V.non] = [some (.ref p1), some (.ref p2), some (.ref p3), some (.ref D), some (.ref lp), v5, v6, v7, v8] ∧ H' D = some (.dT (kvT ((es.take (i + 1)).foldl tell []))) ∧ SameB D H3 H')
          (fun H' h1 h2 => ⟨_, _, _, _, rfl, by rw [et, te]; exact h1, h2⟩) kt2 hk2
        exact ⟨D, H7, rfl, w1, w2⟩
      | some x =>
        refine ⟨_, rfl, rfl, _, rfl, if_f (by simp) ?_⟩
        refine ⟨_, rfl, _, rfl, _, _, rfl, rfl, _, rfl, ?_⟩
        by_cases c : m < x.2.2
        · have te : tell acc (u, v, m) = putE acc (u, v, m) := by unfold tell; rw [hf]; exact if_pos c
          refine if_t (decide_eq_true c) ?_
          refine ⟨_, rfl, _, rfl, _, rfl, _, rfl, by show 2 ≤ sizeLine; decide, fun kt2 hk2 => ?_⟩
          obtain ⟨H7, w1, w2⟩ := puts (Q := fun H' => ∃ v5 v6 v7 v8 : Option V, [some (.ref p1), some (.ref p2), some (.ref p3), some (.ref D), some (.ref lp), some (.int u), some (.int v), some (.int m), some (V.int x.2.2)] = [some (.ref p1), some (.ref p2), some (.ref p3), some (.ref D), some (.ref lp), v5, v6, v7, v8] ∧ H' D = some (.dT (kvT ((es.take (i + 1)).foldl tell []))) ∧ SameB D H3 H')
            (fun H' h1 h2 => ⟨_, _, _, _, rfl, by rw [et, te]; exact h1, h2⟩) kt2 hk2
          exact ⟨D, H7, rfl, w1, w2⟩
        · have te : tell acc (u, v, m) = acc := by unfold tell; rw [hf]; exact if_neg c
          exact if_f (decide_eq_false c) ⟨_, _, _, _, rfl, by rw [et, te]; exact eD2, S2⟩
    · rintro σ' H4 ⟨v5, v6, v7, v8, rfl, eD, S⟩
      rw [List.length_map, t2, List.take_length] at eD
      refine ⟨_, rfl, k D H4 hD (fun c o e => S _ _ (ne_of_none e hD) (S3 _ _ e)) ?_⟩
      unfold toldOf
      rw [hes]
      exact eD
end
end Law

/-! The ring of a site: rounds of relaxing, where a shape is. -/
namespace Law
open PySem PySem.Spec PyProof.Rows L2 Sup
abbrev sFnd : Stmt := top 27
abbrev sRgb : Stmt := top 28
/-- the sums of the nodes -/
def SumsAt (H : Hp) (D : Addr) (n : Nat) (s : Int → Int) : Prop := ∃ kv : List (Key × V), H D = some (.dK kv) ∧ kv.length ≤ n + 1 ∧ ∀ v : Int, -1 ≤ v → v < n → valV kv (.inl v) = some (.int (s v))
theorem putLen {κ : Type} [DecidableEq κ] (c : List (κ × V)) (k : κ) (x : V) : (putK c k x).length ≤ c.length + 1 := by
  unfold putK
  split
  · rw [List.length_map]
    omega
  · rw [List.length_append]
    exact Nat.le_refl _
theorem SumsAt.get {H : Hp} {D : Addr} {n : Nat} {s : Int → Int} (h : SumsAt H D n s) {v : Int} (h1 : -1 ≤ v) (h2 : v < n) : DGet H D (.int v) (some (.int (s v))) := by
  obtain ⟨kv, e, _, k⟩ := h
  rw [← k v h1 h2]
  exact DGet.k (k := .inl v) e
theorem SumsAt.put {H : Hp} {D : Addr} {n : Nat} {s : Int → Int} (h : SumsAt H D n s) {v x : Int} (h1 : -1 ≤ v) (h2 : v < n) (hn : n ≤ 200) : ∃ H', DPut H D (.int v) (.int x) H' ∧ SumsAt H' D n (Relax.put s v x) ∧ ∀ b, b ≠ D → H' b = H b := by
  obtain ⟨kv, e, l, k⟩ := h
  refine ⟨_, DPut.k (k := .inl v) e (by rw [sizeLine_eq]; omega), ⟨_, upd_same, ?_, fun u u1 u2 => ?_⟩, fun b hb => upd_ne hb⟩
  · have := valV_any (.inl v) kv
    rw [k v h1 h2] at this
    unfold putK
    rw [if_pos (by rw [this]; rfl), List.length_map]
    exact l
  · rw [valV_put]
    unfold Relax.put
    by_cases z : u = v
    · subst z
      rw [if_pos rfl, if_pos rfl]
    · rw [if_neg z, if_neg (fun w => z (Sum.inl.inj w))]
      exact k u u1 u2
theorem SumsAt.of_eq {H H' : Hp} {D : Addr} {n : Nat} {s : Int → Int} (h : SumsAt H D n s) (e : H' D = H D) : SumsAt H' D n s := by
  obtain ⟨kv, a, b⟩ := h
  exact ⟨kv, e.trans a, b⟩
theorem relax_no {s : Int → Int} {e : Edge} (h : s e.2.1 ≤ s e.1 + e.2.2) : Relax.relax s e = s := by
  unfold Relax.relax
  rw [if_neg (by omega)]
structure FiTxt (mg : Str → Option Value) (fRb : Addr) : Prop where
  ground : ∃ t, mg "GROUND" = some (.int (-1) t)
  range : mg "range" = none
  rgb : mg "_ring_behind" = some (.ref fRb)
def spNo : Sp := fun _ _ _ _ => False
def inNodes (n : Nat) (es : List Edge) : Prop := ∀ e ∈ es, (-1 ≤ e.1 ∧ e.1 < n) ∧ -1 ≤ e.2.1 ∧ e.2.1 < n
def spFnd : Sp := fun vs H Q _ => ∃ (n : Nat) (t : Addr) (es : List Edge) (pi : Int → Int), vs = [.int n, .ref t] ∧ H t = some (.dT (kvT es)) ∧ n ≤ 200 ∧ es.length ≤ 900 ∧ inNodes n es ∧ (∀ e ∈ es, pi e.2.1 - pi e.1 ≤ e.2.2) ∧
  ∀ (q : Addr) (H' : Hp), H q = none → Same H H' → H' q = some (.lst []) → Q (.ref q) H'
section
variable {P : Program} {w : World} {K : PySem.W.Frag} {mg : Str → Option Value} {base : Heap}
theorem scFnd : FnScope ["size", "told", "sums", "node", "before", "changed", "_", "first", "second", "most"] ["size", "told"] (defScope sFnd) := ⟨rfl, rfl, rfl, by decide +kernel, rfl, by decide +kernel, by decide +kernel⟩
set_option maxHeartbeats 0 in
theorem ok_fnd {f fRb : Addr} {fd fdRb : FuncData} (F : Fun K "_find_ring" "_find_ring" sFnd f fd) (T : FiTxt mg fRb) (GRb : FnOk P w K mg base CX0 1 fRb fdRb ["node", "before"] spNo) (FRb : Fun K "_ring_behind" "_ring_behind" sRgb fRb fdRb) (bRb : Binds K fdRb ["node", "before"] []) : FnOk P w K mg base CX0 2 f fd ["size", "told"] spFnd := by
  obtain ⟨tk, hgr⟩ := T.ground
  refine F.ok scFnd (fun vs H Q E h => ?_) (fun cdv A outer s H vs Q E hr h => ?_)
  · obtain ⟨n, t, es, pi, rfl, _⟩ := h
    rfl
  · obtain ⟨n, t, es, pi, rfl, ht, ln, le, hin, hpi, k⟩ := h
    have hr1 : Room 1 _ := hr.mono (by decide)
    refine ⟨_, (pss_cons (DcX.ps_setDc (i := 2) (own := [("node", 3)]) (g := gName 3) (tt := tYes) rfl scFnd.nd rfl rfl (DcX.swd_true rfl rfl rfl (by decide +kernel)) (pi_range2 (by rfl) T.range (pa_cons (pe_glob (v := .int (-1)) rfl hgr ⟨_, rfl⟩) (pa_cons (pv 0) pa_nil)))
        (blkOk_by (own := [("node", 3)]) (N := ["size", "told", "sums", "node", "before", "changed", "_", "first", "second", "most"]) (sc := defScope sFnd) (by decide +kernel)) (fun _ _ _ _ _ => pg_name (i := 3) scFnd.nd rfl (Or.inl rfl)) (fun _ _ _ _ _ => pts_nil) (fun _ _ _ _ _ => pv 3) (fun _ _ _ _ _ => pe_int))
      (pss_cons (ps_set (i := 4) scFnd.nd rfl (Or.inl rfl) pe_dnewK)
      (pss_cons (ps_set (i := 5) scFnd.nd rfl (Or.inl rfl) (pe_lst pa_nil))
      (pss_cons (ps_for PassesOwn.never rfl (pi_range2 (by rfl) T.range (pa_cons (pe_glob (v := .int (-1)) rfl hgr ⟨_, rfl⟩) (pa_cons (pv 0) pa_nil))) (pg_name (i := 6) scFnd.nd rfl (Or.inl rfl)) (pss_cons (ps_set (i := 5) scFnd.nd rfl (Or.inl rfl) (pe_lst pa_nil))
      (pss_one (ps_lock (ps_for PassesOwn.never rfl (DTX.pi_itemsT (pv 1)) (pg_tup (by rfl) (pgs_cons (pg_tup (by rfl) (pgs_cons (pg_name (i := 7) scFnd.nd rfl (Or.inl rfl)) (pgs_cons (pg_name (i := 8) scFnd.nd rfl (Or.inl rfl)) pgs_nil))) (pgs_cons (pg_name (i := 9) scFnd.nd rfl (Or.inl rfl)) pgs_nil))) (pss_one (ps_if (pt_cmpR op_lt (pe_op op_add (pe_dget (hu_of hr) (pv 2) (pv 7) (fun _ _ => rfl)) (pv 9)) (pe_dget (hu_of hr) (pv 2) (pv 8) (fun _ _ => rfl)) (nomark _)) (pss_cons (ps_dput (hu_of hr) (pv 2) (pv 8) (pe_op op_add (pe_dget (hu_of hr) (pv 2) (pv 7) (fun _ _ => rfl)) (pv 9)) rfl)
      (pss_cons (ps_dput (hu_of hr) (pv 4) (pv 8) (pv 7) rfl)
      (pss_one (ps_expr (pe_bm PySem.F.plainAttrs_list PySem.F.slot_list_append PySem.F.type_list_append mt_append (pv 5) (pa_cons (pv 8) pa_nil)))))) pss_nil)))))))
      (pss_cons (ps_if (pt_not (pt_truth (pv 5) (by intro _; rfl))) (pss_one (ps_ret (pe_lst pa_nil))) pss_nil)
      (pss_one (ps_ret (pe_call GRb hr1 rfl T.rgb FRb.kp bRb .nil pass0 (pa_cons (pe_ix ix_list (pv 5) (pe_un un_neg pe_int) (fun _ _ => rfl)) (pa_cons (pv 4) pa_nil)))))))))), ?_⟩
    have en : ((n : Int) - -1).toNat = n + 1 := by omega
    refine ⟨_, rfl, _, _, rfl, ⟨by omega, by omega, by omega, by omega⟩, fun D hD => ?_⟩
    rw [en]
    refine DcX.dc_it (walk_range (lo := -1) (n := n + 1)) (fun i H' => (∃ kv : List (Key × V), H' D = some (.dK kv) ∧ kv.length ≤ i ∧ ∀ v : Int, -1 ≤ v → v < -1 + (i : Int) → valV kv (.inl v) = some (.int 0)) ∧ Same H H') ⟨⟨[], upd_same, Nat.le_refl _, fun v h1 h2 => absurd h2 (by omega)⟩, same_new hD⟩ (fun _ _ _ _ => trivial) ?_ ?_
    · rintro i x H1 H2 hi ⟨⟨kv, a1, a2, a3⟩, S1⟩ ⟨rfl, rfl⟩
      refine ⟨rfl, _, rfl, _, .inl (-1 + (i : Int)), rfl, a1, small1000 (by omega), ⟨_, upd_same, Nat.le_trans (putLen _ _ _) (by omega), fun v h1 h2 => ?_⟩, fun b o e => ?_⟩
      · rw [valV_put]
        by_cases z : v = -1 + (i : Int)
        · subst z
          rw [if_pos rfl]
        · rw [if_neg fun w => z (Sum.inl.inj w)]
          exact a3 v h1 (by omega)
      · rw [upd_ne (ne_of_none e hD)]
        exact S1 _ _ e
    rintro H1 ⟨⟨kv, a1, a2, a3⟩, S1⟩
    have SA : SumsAt H1 D n (Relax.rounds es 0) := ⟨kv, a1, a2, fun v h1 h2 => a3 v h1 (by omega)⟩
    refine fun B hB => ?_
    have nDB : D ≠ B := ne_of_none a1 hB
    have s2 := same_new (o := .dK []) hB
    have S2 := same_tr S1 s2
    have SA := SA.of_eq (H' := upd H1 B (.dK [])) (upd_ne nDB)
    have eB : upd H1 B (.dK []) B = some (.dK []) := upd_same
    have hB0 : H B = none := none_back S1 hB
    generalize upd H1 B (.dK []) = H2 at SA S2 eB
    refine ⟨by show 0 ≤ sizeLine; decide, fun C0 hC0 => ?_⟩
    have s3 := same_new (o := .lst []) hC0
    have hC00 := none_back S2 hC0
    have S3 := same_tr S2 s3
    have SA := SA.of_eq (H' := upd H2 C0 (.lst [])) (upd_ne (ne_of_none (show H2 D = some (.dK (Classical.choose SA)) from (Classical.choose_spec SA).1) hC0))
    have eB := s3 _ _ eB
    have eC : upd H2 C0 (.lst []) C0 = some (.lst []) := upd_same
    generalize upd H2 C0 (.lst []) = H3 at SA S3 eB eC
    have nDt : D ≠ t := fun z => by rw [z, ht] at hD; cases hD
    have nBt : B ≠ t := fun z => by rw [z, ht] at hB0; cases hB0
    refine ⟨_, rfl, _, _, rfl, ⟨by omega, by omega, by omega, by omega⟩, ?_⟩
    rw [en]
    refine for_it (walk_range (lo := -1) (n := n + 1)) (fun i σ' H' => ∃ (C : Addr) (v3 v6 v7 v8 v9 : Option V) (cl : List V) (kb : List (Key × V)), σ' = [some (.int n), some (.ref t), some (.ref D), v3, some (.ref B), some (.ref C), v6, v7, v8, v9] ∧
      SumsAt H' D n (Relax.rounds es i) ∧ (H' B = some (.dK kb) ∧ kb.length ≤ i * es.length) ∧ H' C = some (.lst cl) ∧ H C = none ∧ (i = n + 1 → cl = []) ∧ Same H H')
      ⟨C0, _, _, _, _, _, [], [], rfl, SA, ⟨eB, by simp⟩, eC, hC00, fun _ => rfl, S3⟩ (fun _ _ _ _ _ => trivial) ?_ ?_
    · rintro i x σ' H4 H5 hi ⟨C1, v3, v6, v7, v8, v9, cl1, kb0, rfl, SA4, ⟨b1, b2⟩, c1, c2, c3, S4⟩ ⟨rfl, rfl⟩
      refine ⟨by show 0 ≤ sizeLine; decide, fun C hC => ?_⟩
      have s5 := same_new (o := .lst []) hC
      have hC0 := none_back S4 hC
      have S5 := same_tr S4 s5
      have nDC : D ≠ C := ne_of_none (Classical.choose_spec SA4).1 hC
      have nBC : B ≠ C := ne_of_none b1 hC
      have SA5 := SA4.of_eq (H' := upd H5 C (.lst [])) (upd_ne nDC)
      have b1 := s5 _ _ b1
      have eC : upd H5 C (.lst []) C = some (.lst []) := upd_same
      generalize upd H5 C (.lst []) = H6 at SA5 S5 b1 eC
      have nCt : C ≠ t := fun z => by rw [z, ht] at hC0; cases hC0
      refine ⟨t, .dT (kvT es), S5 _ _ ht, trivial, fun od => ?_⟩
      refine ⟨_, rfl, t, od, kvT es, rfl, upd_same, ?_⟩
      have kl : (kvT es).length = es.length := by unfold kvT; rw [List.length_map]
      refine for_it DTX.walk_itemsT (fun j σ' H' => ∃ (v7 v8 v9 : Option V) (cl : List V) (kb : List (Key × V)), σ' = [some (.int n), some (.ref t), some (.ref D), v3, some (.ref B), some (.ref C), some (.int (-1 + (i : Int))), v7, v8, v9] ∧
        H' t = some (.frz od (.dT (kvT es))) ∧ SumsAt H' D n ((es.take j).foldl Relax.relax (Relax.rounds es i)) ∧ (H' B = some (.dK kb) ∧ kb.length ≤ i * es.length + j) ∧ (H' C = some (.lst cl) ∧ cl.length ≤ j ∧ (i = n → cl = [] ∧ (es.take j).foldl Relax.relax (Relax.rounds es i) = Relax.rounds es i)) ∧ SameB t H H')
        ⟨_, _, _, [], kb0, rfl, upd_same, SA5.of_eq (upd_ne nDt), ⟨(upd_ne nBt).trans b1, b2⟩, ⟨(upd_ne nCt).trans eC, Nat.le_refl _, fun _ => ⟨rfl, rfl⟩⟩, fun b o nb e => (upd_ne nb).trans (S5 _ _ e)⟩ (fun _ _ _ _ h => by obtain ⟨_, _, _, _, _, _, z, _⟩ := h; exact z) ?_ ?_
      · rintro j x σ' H7 H8 hj ⟨v7, v8, v9, cl, kb, rfl, ft, SJ, ⟨k1, k2⟩, ⟨l1, l2, l3⟩, SB⟩ ⟨T0, q0, kk, vv, e1, rfl, e2, hT, rfl⟩
        rw [kl] at hj
        obtain ⟨⟨u, v, m⟩, he⟩ : ∃ e, es[j]? = some e := ⟨_, List.getElem?_eq_getElem hj⟩
        unfold kvT at e1
        rw [List.getElem?_map, he] at e1
        cases e1
        have sT := same_new (o := .tup [V.ref q0, V.int m]) hT
        have em := List.mem_of_getElem? he
        obtain ⟨⟨u1, u2⟩, w1, w2⟩ := hin _ em
        have et : (es.take (j + 1)).foldl Relax.relax (Relax.rounds es i) = Relax.relax ((es.take j).foldl Relax.relax (Relax.rounds es i)) (u, v, m) := by
          rw [List.take_succ, he, Option.toList_some, List.foldl_append]
          rfl
        refine ⟨T0, _, rfl, SqT.of upd_same, rfl, _, _, rfl, q0, _, rfl, SqT.of (sT _ _ e2), rfl, _, _, rfl, _, _, rfl, rfl, _, _, rfl, rfl, ?_⟩
        have nD0 : D ≠ T0 := ne_of_none (Classical.choose_spec SJ).1 hT
        have SK := SJ.of_eq (H' := upd H7 T0 (.tup [V.ref q0, V.int m])) (upd_ne nD0)
        have k1 := sT _ _ k1
        have l1 := sT _ _ l1
        have ft := sT _ _ ft
        have SB2 : SameB t H (upd H7 T0 (.tup [V.ref q0, V.int m])) := fun b o nb e => sT _ _ (SB b o nb e)
        generalize upd H7 T0 (.tup [V.ref q0, V.int m]) = H8 at SK k1 l1 ft SB2
        generalize hS : (es.take j).foldl Relax.relax (Relax.rounds es i) = S at SK et l3
        have G1 := SK.get u1 u2
        have G2 := SK.get w1 w2
        refine ⟨_, rfl, _, rfl, D, _, rfl, G1, _, rfl, _, _, rfl, rfl, _, rfl, _, rfl, D, _, rfl, G2, _, _, rfl, rfl, _, rfl, ?_⟩
        by_cases c : S u + m < S v
        · refine if_t (decide_eq_true c) ?_
          have er : Relax.relax S (u, v, m) = Relax.put S v (S u + m) := if_pos c
          obtain ⟨H9, p1, p2, p3⟩ := SK.put (x := S u + m) w1 w2 ln
          refine ⟨_, rfl, _, rfl, D, _, rfl, G1, _, rfl, _, _, rfl, rfl, _, rfl, _, rfl, D, H9, rfl, p1, ?_⟩
          have k9 := (p3 B (Ne.symm nDB)).trans k1
          have l9 := (p3 C (Ne.symm nDC)).trans l1
          have f9 := (p3 t (Ne.symm nDt)).trans ft
          have hij : i * es.length + j ≤ 200000 := by
            have a : i * es.length ≤ 201 * 900 := Nat.mul_le_mul (by omega) le
            omega
          refine ⟨_, rfl, _, rfl, _, rfl, B, _, rfl, DPut.k (k := .inl v) k9 (by rw [sizeLine_eq]; omega), ?_⟩
          have l10 : upd H9 B (.dK (putK kb (.inl v) (.int u))) C = some (.lst cl) := (upd_ne (Ne.symm nBC)).trans l9
          refine ⟨_, rfl, .inl ⟨rfl, _, SqL.of l10⟩, _, rfl, C, cl, _, rfl, rfl, l10, small1000 (by omega), ?_⟩
          refine ⟨_, _, _, cl ++ [.int v], putK kb (.inl v) (.int u), rfl, ?_, ?_, ⟨?_, ?_⟩, ⟨upd_same, ?_, fun z => ?_⟩, fun b o nb e => ?_⟩
          · rw [upd_ne (Ne.symm nCt), upd_ne (Ne.symm nBt)]
            exact f9
          · rw [et, er]
            exact p2.of_eq (by rw [upd_ne nDC, upd_ne nDB])
          · rw [upd_ne nBC, upd_same]
            rfl
          · have := putLen kb (.inl v) (.int u)
            omega
          · rw [List.length_append]
            show cl.length + 1 ≤ j + 1
            omega
          · have st := Relax.settled (n := n + 1) (lo := -1) (k := n) hpi (fun e he => by have := hin e he; omega) (Nat.le_refl _) _ em
            have e3 := (l3 z).2
            subst z
            rw [e3] at c
            have st : Relax.rounds es i v ≤ Relax.rounds es i u + m := st
            omega
          · have nbD : b ≠ D := ne_of_none e hD
            have nbB : b ≠ B := ne_of_none e hB0
            have nbC : b ≠ C := ne_of_none e hC0
            rw [upd_ne nbC, upd_ne nbB, p3 b nbD]
            exact SB2 b o nb e
        · refine if_f (decide_eq_false c) ?_
          have er : Relax.relax S (u, v, m) = S := if_neg c
          refine ⟨_, _, _, cl, kb, rfl, ft, by rw [et, er]; exact SK, ⟨k1, by omega⟩, ⟨l1, by omega, fun z => ⟨(l3 z).1, by rw [et, er]; exact (l3 z).2⟩⟩, SB2⟩
      · rintro σ' H7 ⟨v7, v8, v9, cl, kb, rfl, ft, SJ, ⟨k1, k2⟩, ⟨l1, l2, l3⟩, SB⟩
        rw [kl] at SJ k2 l2 l3
        rw [List.take_length] at SJ l3
        refine ⟨ft, C, v3, _, v7, v8, v9, cl, kb, rfl, SJ.of_eq (upd_ne nDt), ⟨(upd_ne nBt).trans k1, by rw [Nat.add_mul, Nat.one_mul]; exact k2⟩, (upd_ne nCt).trans l1, hC0, fun z => (l3 (by omega)).1, fun b o e => ?_⟩
        by_cases z : b = t
        · subst z
          rw [ht] at e
          cases e
          exact upd_same
        · rw [upd_ne z]
          exact SB _ _ z e
    · rintro σ' H4 ⟨C1, v3, v6, v7, v8, v9, cl1, kb0, rfl, SA4, ⟨b1, b2⟩, c1, c2, c3, S4⟩
      obtain rfl := c3 rfl
      refine ⟨_, rfl, false, .inl ⟨[], SqL.of c1, rfl⟩, if_t rfl ?_⟩
      exact ⟨by show 0 ≤ sizeLine; decide, fun q hq => k q _ (none_back S4 hq) (same_tr S4 (same_new hq)) upd_same⟩
end
end Law


/-! Rings: behind a change in the last round the steps back lead into a ring. -/
namespace Relax
structure RInv (es : List Edge) (n : Nat) (k : Nat) (done : List Edge) (S : Int → Int) (bf : Int → Option Int) (t : Int → Nat) : Prop where
  i1 : ∀ e ∈ es, S e.2.1 ≤ S e.1 + e.2.2 ∨ (if e ∈ done then k else k - 1) ≤ t e.1
  i2 : ∀ v, 1 ≤ t v → ∃ u, bf v = some u ∧ t v ≤ t u + 1 ∧ -1 ≤ u ∧ u < n
  i3 : ∀ v, t v ≤ k
theorem RInv.start (es : List Edge) (n : Nat) (S : Int → Int) : RInv es n 1 [] S (fun _ => none) (fun _ => 0) :=
  ⟨fun e he => .inr (by rw [if_neg (by simp)]; exact Nat.zero_le _), fun v h => absurd h (by decide), fun v => Nat.zero_le _⟩
theorem RInv.next {es : List Edge} {n k : Nat} {S : Int → Int} {bf : Int → Option Int} {t : Int → Nat} (h : RInv es n k es S bf t) : RInv es n (k + 1) [] S bf t := by
  refine ⟨fun e he => ?_, h.i2, fun v => Nat.le_succ_of_le (h.i3 v)⟩
  rcases h.i1 e he with q | q
  · exact .inl q
  · rw [if_pos he] at q
    exact .inr (by rw [if_neg (by simp)]; exact q)
/-- an edge that relaxes -/
theorem RInv.relax {es done : List Edge} {n k : Nat} {S : Int → Int} {bf : Int → Option Int} {t : Int → Nat} {u v w : Int} (h : RInv es n k done S bf t) (he : (u, v, w) ∈ es) (hk : 1 ≤ k) (hu : -1 ≤ u ∧ u < n) (c : S u + w < S v) :
    RInv es n k (done ++ [(u, v, w)]) (put S v (S u + w)) (fun a => if a = v then some u else bf a) (fun a => if a = v then k else t a) := by
  have tu : k ≤ t u + 1 := by
    rcases h.i1 _ he with q | q
    · have q : S v ≤ S u + w := q
      omega
    · have q : (if (u, v, w) ∈ done then k else k - 1) ≤ t u := q
      split at q <;> omega
  have tm : ∀ a, t a ≤ (if a = v then k else t a) := fun a => by
    split
    · exact h.i3 a
    · exact Nat.le_refl _
  refine ⟨fun e he' => ?_, fun a ha => ?_, fun a => ?_⟩
  · by_cases ca : e.1 = v
    · refine .inr ?_
      show _ ≤ (if e.1 = v then k else t e.1)
      rw [if_pos ca]
      split <;> omega
    · have hp : put S v (S u + w) e.1 = S e.1 := if_neg ca
      have hle : put S v (S u + w) e.2.1 ≤ S e.2.1 := by
        unfold put
        split
        · rename_i z
          rw [z]
          omega
        · exact Int.le_refl _
      rw [hp]
      by_cases ee : e = (u, v, w)
      · refine .inl ?_
        rw [ee]
        show put S v (S u + w) v ≤ S u + w
        unfold put
        rw [if_pos rfl]
        exact Int.le_refl _
      · rcases h.i1 e he' with q | q
        · exact .inl (Int.le_trans hle q)
        · refine .inr ?_
          show _ ≤ (if e.1 = v then k else t e.1)
          rw [if_neg ca]
          have : (e ∈ done ++ [(u, v, w)]) ↔ e ∈ done := by simp [ee]
          simp only [this]
          exact q
  · show ∃ x, (if a = v then some u else bf a) = some x ∧ (if a = v then k else t a) ≤ (if x = v then k else t x) + 1 ∧ _
    have ha : 1 ≤ (if a = v then k else t a) := ha
    by_cases ca : a = v
    · rw [if_pos ca, if_pos ca]
      exact ⟨u, rfl, Nat.le_trans tu (Nat.succ_le_succ (tm u)), hu⟩
    · rw [if_neg ca] at ha
      rw [if_neg ca, if_neg ca]
      obtain ⟨x, h1, h2, h3⟩ := h.i2 a ha
      exact ⟨x, h1, Nat.le_trans h2 (Nat.succ_le_succ (tm x)), h3⟩
  · show (if a = v then k else t a) ≤ k
    split
    · exact Nat.le_refl _
    · exact h.i3 a
theorem RInv.keep {es done : List Edge} {n k : Nat} {S : Int → Int} {bf : Int → Option Int} {t : Int → Nat} {e : Edge} (h : RInv es n k done S bf t) (c : S e.2.1 ≤ S e.1 + e.2.2) : RInv es n k (done ++ [e]) S bf t := by
  refine ⟨fun e' he' => ?_, h.i2, h.i3⟩
  by_cases ee : e' = e
  · subst ee
    exact .inl c
  · rcases h.i1 e' he' with q | q
    · exact .inl q
    · have : (e' ∈ done ++ [e]) ↔ e' ∈ done := by simp [ee]
      simp only [this]
      exact .inr q
/-! going back -/
def back (bf : Int → Option Int) (v : Int) : Nat → Int
  | 0 => v
  | j + 1 => (bf (back bf v j)).getD 0
theorem rep (it : Nat → Int) : ∀ m : Nat, ((List.range (m + 1)).map it).Nodup ∨ ∃ i j, i < j ∧ j ≤ m ∧ it i = it j ∧ ((List.range j).map it).Nodup
  | 0 => .inl (by simp)
  | m + 1 => by
    rcases rep it m with h | ⟨i, j, h1, h2, h3⟩
    · by_cases c : it (m + 1) ∈ (List.range (m + 1)).map it
      · obtain ⟨i, hi, e⟩ := List.mem_map.mp c
        exact .inr ⟨i, m + 1, List.mem_range.mp hi, Nat.le_refl _, e, h⟩
      · refine .inl ?_
        rw [List.range_succ, List.map_append]
        refine List.nodup_append.mpr ⟨h, by simp, fun a ha b hb e => ?_⟩
        rw [List.map_cons, List.map_nil, List.mem_singleton] at hb
        exact c (hb ▸ e ▸ ha)
    · exact .inr ⟨i, j, h1, by omega, h3⟩
/-- from a node changed in the last round: all steps back are told, and they come to a ring -/
theorem ring_of {es : List Edge} {n : Nat} {S : Int → Int} {bf : Int → Option Int} {t : Int → Nat} {v : Int} (h : RInv es n (n + 1) es S bf t) (hv : t v = n + 1) (hr : -1 ≤ v ∧ v < n) :
    ∃ i j, i < j ∧ j ≤ n + 1 ∧ back bf v i = back bf v j ∧ ((List.range j).map (back bf v)).Nodup ∧ (∀ m, bf (back bf v m) = some (back bf v (m + 1))) ∧ ∀ m, -1 ≤ back bf v m ∧ back bf v m < n := by
  have st : ∀ m, m ≤ n + 1 → n + 1 ≤ t (back bf v m) + m ∧ -1 ≤ back bf v m ∧ back bf v m < n := fun m => by
    induction m with
    | zero => exact fun _ => ⟨by show n + 1 ≤ t v + 0; omega, hr⟩
    | succ m ih =>
      intro hm
      obtain ⟨a, b⟩ := ih (by omega)
      obtain ⟨u, h1, h2, h3⟩ := h.i2 (back bf v m) (by omega)
      have e : back bf v (m + 1) = u := by show (bf (back bf v m)).getD 0 = u; rw [h1]; rfl
      rw [e]
      exact ⟨by omega, h3⟩
  have df : ∀ m, m ≤ n → bf (back bf v m) = some (back bf v (m + 1)) := fun m hm => by
    obtain ⟨a, _⟩ := st m (by omega)
    obtain ⟨u, h1, _⟩ := h.i2 (back bf v m) (by omega)
    show _ = some ((bf (back bf v m)).getD 0)
    rw [h1]
    rfl
  rcases rep (back bf v) (n + 1) with nd | ⟨i, j, h1, h2, h3, h4⟩
  · have := few (n + 1) (-1) ((List.range (n + 1 + 1)).map (back bf v)) nd fun x hx => by
      obtain ⟨m, hm, rfl⟩ := List.mem_map.mp hx
      obtain ⟨_, q⟩ := st m (by have := List.mem_range.mp hm; omega)
      omega
    rw [List.length_map, List.length_range] at this
    omega
  · refine ⟨i, j, h1, h2, h3, h4, ?_⟩
    have per : ∀ m, ∃ m', m' < j ∧ back bf v m = back bf v m' := fun m => by
      induction m with
      | zero => exact ⟨0, by omega, rfl⟩
      | succ m ih =>
        obtain ⟨m', q1, q2⟩ := ih
        have e : back bf v (m + 1) = back bf v (m' + 1) := by show (bf _).getD 0 = (bf _).getD 0; rw [q2]
        by_cases c : m' + 1 < j
        · exact ⟨m' + 1, c, e⟩
        · have : m' + 1 = j := by omega
          rw [this, ← h3] at e
          exact ⟨i, h1, e⟩
    refine ⟨fun m => ?_, fun m => ?_⟩
    · obtain ⟨m', q1, q2⟩ := per m
      rw [q2, df m' (by omega)]
      show some ((bf (back bf v m')).getD 0) = some ((bf (back bf v m)).getD 0)
      rw [q2]
    · obtain ⟨m', q1, q2⟩ := per m
      rw [q2]
      exact (st m' (by omega)).2
theorem back_per {bf : Int → Option Int} {v : Int} {i j : Nat} (h : i < j) (e : back bf v i = back bf v j) : ∀ m, i ≤ m → back bf v (m + (j - i)) = back bf v m := fun m => by
  induction m with
  | zero =>
    intro hm
    obtain rfl : i = 0 := by omega
    rw [Nat.zero_add, Nat.sub_zero]
    exact e.symm
  | succ m ih =>
    intro hm
    by_cases c : i ≤ m
    · have q := ih c
      rw [show m + 1 + (j - i) = (m + (j - i)) + 1 by omega]
      show (bf _).getD 0 = (bf _).getD 0
      rw [q]
    · have : i = m + 1 := by omega
      subst this
      rw [show m + 1 + (j - (m + 1)) = j by omega]
      exact e.symm
theorem back_add (bf : Int → Option Int) (v : Int) (a : Nat) : ∀ b, back bf (back bf v a) b = back bf v (a + b)
  | 0 => rfl
  | b + 1 => by
    show (bf (back bf (back bf v a) b)).getD 0 = (bf (back bf v (a + b))).getD 0
    rw [back_add bf v a b]
end Relax

/-! The ring of a site, whether a shape is or not. -/
namespace Law
open PySem PySem.Spec PyProof.Rows L2 Sup
theorem keys_len : ∀ (kv : List (Key × V)) (l : List Int), (∀ a ∈ l, (valV kv (.inl a)).isSome = true) → l.Nodup → l.length ≤ kv.length
  | [], [], _, _ => Nat.le_refl _
  | [], a :: l, h, _ => by
    have := h a List.mem_cons_self
    cases this
  | (k, v) :: kv, l, h, hn => by
    have e := keys_len kv (l.filter fun a => decide (k ≠ .inl a)) (fun a ha => by
      obtain ⟨h1, h2⟩ := List.mem_filter.mp ha
      have z := h a h1
      rw [valV_neg (of_decide_eq_true h2)] at z
      exact z) (hn.filter _)
    have z : l.length ≤ (l.filter fun a => decide (k ≠ .inl a)).length + 1 := by
      clear e h
      induction l with
      | nil => exact Nat.zero_le _
      | cons a l ih =>
        obtain ⟨n1, n2⟩ := List.nodup_cons.mp hn
        by_cases c : k = .inl a
        · have all : l.filter (fun a => decide (k ≠ .inl a)) = l := List.filter_eq_self.mpr fun b hb => decide_eq_true fun z => n1 (by rw [c] at z; rw [Sum.inl.inj z]; exact hb)
          rw [List.filter_cons, if_neg (by simp [c]), all, List.length_cons]
          exact Nat.le_refl _
        · have := ih n2
          rw [List.filter_cons, if_pos (by simp [c]), List.length_cons, List.length_cons]
          omega
    rw [List.length_cons]
    omega
/-- the steps back, in a dict -/
def BefAt (H : Hp) (B : Addr) (n : Nat) (bf : Int → Option Int) : Prop := ∃ kv : List (Key × V), H B = some (.dK kv) ∧ kv.length ≤ 200000 ∧ ∀ v : Int, -1 ≤ v → v < n → valV kv (.inl v) = (bf v).map V.int
structure RbTxt (mg : Str → Option Value) : Prop where
  b_len : mg "len" = none
  b_range : mg "range" = none
/-- a ring is told -/
def RingAt (H : Hp) (q : Addr) (n : Nat) : Prop := ∃ ring : List Int, H q = some (.lst (ring.map V.int)) ∧ ring ≠ [] ∧ ring.length ≤ n + 1 ∧ ∀ x ∈ ring, -1 ≤ x ∧ x < n
def spRgb : Sp := fun vs H Q _ => ∃ (v : Int) (B : Addr) (n i j : Nat) (bf : Int → Option Int), vs = [.int v, .ref B] ∧ BefAt H B n bf ∧ i < j ∧ j ≤ n + 1 ∧ n ≤ 200 ∧ Relax.back bf v i = Relax.back bf v j ∧ ((List.range j).map (Relax.back bf v)).Nodup ∧
  (∀ m, bf (Relax.back bf v m) = some (Relax.back bf v (m + 1))) ∧ (∀ m, -1 ≤ Relax.back bf v m ∧ Relax.back bf v m < n) ∧ ∀ (q : Addr) (H' : Hp), H q = none → Same H H' → RingAt H' q n → Q (.ref q) H'
def spFnd2 : Sp := fun vs H Q _ => ∃ (n : Nat) (t : Addr) (es : List Edge), vs = [.int n, .ref t] ∧ H t = some (.dT (kvT es)) ∧ n ≤ 200 ∧ es.length ≤ 900 ∧ inNodes n es ∧
  ((∃ pi : Int → Int, ∀ e ∈ es, pi e.2.1 - pi e.1 ≤ e.2.2) → ∀ (q : Addr) (H' : Hp), H q = none → Same H H' → H' q = some (.lst []) → Q (.ref q) H') ∧
  ((¬ ∃ pi : Int → Int, ∀ e ∈ es, pi e.2.1 - pi e.1 ≤ e.2.2) → ∀ (q : Addr) (H' : Hp), H q = none → Same H H' → RingAt H' q n → Q (.ref q) H')
section
variable {P : Program} {w : World} {K : PySem.W.Frag} {mg : Str → Option Value} {base : Heap}
theorem scRgb : FnScope ["node", "before", "_", "ring", "other"] ["node", "before"] (defScope sRgb) := ⟨rfl, rfl, rfl, by decide +kernel, rfl, by decide +kernel, by decide +kernel⟩
set_option maxHeartbeats 0 in
theorem ok_rgb2 {f : Addr} {fd : FuncData} (F : Fun K "_ring_behind" "_ring_behind" sRgb f fd) (T : RbTxt mg) : FnOk P w K mg base CX0 1 f fd ["node", "before"] spRgb := by
  refine F.ok scRgb (fun vs H Q E h => ?_) (fun cdv A outer s H vs Q E hr h => ?_)
  · obtain ⟨v, B, n, i, j, bf, rfl, _⟩ := h
    rfl
  · obtain ⟨v, B, n, i, j, bf, rfl, ⟨kv, b1, b2, b3⟩, hij, hj, hn, he, hnd, hdf, hin, k⟩ := h
    refine ⟨_, (pss_cons (ps_for PassesOwn.never rfl (pi_range1 (by rfl) T.b_range (pa_cons (pe_callB call_lenD (by rfl) T.b_len PySem.boot_len (pa_cons (pv 1) pa_nil)) pa_nil)) (pg_name (i := 2) scRgb.nd rfl (Or.inl rfl)) (pss_one (ps_set (i := 0) scRgb.nd rfl (Or.inl rfl) (pe_dget (hu_of hr) (pv 1) (pv 0) (fun _ _ => rfl)))))
      (pss_cons (ps_set (i := 3) scRgb.nd rfl (Or.inl rfl) (pe_lst (pa_cons (pv 0) pa_nil)))
      (pss_cons (ps_set (i := 4) scRgb.nd rfl (Or.inl rfl) (pe_dget (hu_of hr) (pv 1) (pv 0) (fun _ _ => rfl)))
      (pss_cons (ps_while PassesOwn.never (pt_cmpR op_ne (pv 4) (pv 0) (nomark _)) (pss_cons (ps_expr (pe_bm PySem.F.plainAttrs_list PySem.F.slot_list_append PySem.F.type_list_append mt_append (pv 3) (pa_cons (pv 4) pa_nil)))
      (pss_one (ps_set (i := 4) scRgb.nd rfl (Or.inl rfl) (pe_dget (hu_of hr) (pv 1) (pv 4) (fun _ _ => rfl))))))
      (pss_cons (ps_expr (pe_bm0 PySem.F.plainAttrs_list PySem.F.slot_list_reverse PySem.F.type_list_reverse mt_reverse (pv 3)))
      (pss_one (ps_ret (pv 3)))))))), ?_⟩
    have get : ∀ m, ∀ {H' : Hp}, H' B = some (.dK kv) → DGet H' B (.int (Relax.back bf v m)) (some (.int (Relax.back bf v (m + 1)))) := fun m {H'} e => by
      have z := DGet.k (k := .inl (Relax.back bf v m)) e
      rw [b3 _ (hin m).1 (hin m).2, hdf m] at z
      exact z
    have hL : j ≤ kv.length := by
      have z := keys_len kv ((List.range j).map (Relax.back bf v)) (fun a ha => by
        obtain ⟨m, _, rfl⟩ := List.mem_map.mp ha
        rw [b3 _ (hin m).1 (hin m).2, hdf m]
        rfl) hnd
      rw [List.length_map, List.length_range] at z
      exact z
    have per := Relax.back_per hij he
    refine ⟨_, rfl, B, kv, rfl, b1, _, rfl, by omega, by omega, ?_⟩
    rw [Int.toNat_natCast]
    refine for_it (walk_range (lo := 0) (n := kv.length)) (fun m σ' H' => (∃ v2 : Option V, σ' = [some (.int (Relax.back bf v m)), some (.ref B), v2, none, none]) ∧ H' = H) ⟨⟨_, rfl⟩, rfl⟩ (fun _ _ _ _ _ => trivial) ?_ ?_
    · rintro m x σ' H1 H2 hm ⟨⟨v2, rfl⟩, rfl⟩ ⟨rfl, rfl⟩
      exact ⟨_, rfl, _, rfl, B, _, rfl, get m b1, ⟨_, rfl⟩, rfl⟩
    rintro σ' H1 ⟨⟨v2, rfl⟩, rfl⟩
    generalize hx : Relax.back bf v kv.length = x
    have bx : ∀ m, Relax.back bf x m = Relax.back bf v (kv.length + m) := fun m => by rw [← hx]; exact Relax.back_add bf v kv.length m
    have getx : ∀ m, ∀ {H' : Hp}, H' B = some (.dK kv) → DGet H' B (.int (Relax.back bf x m)) (some (.int (Relax.back bf x (m + 1)))) := fun m {H'} e => by
      rw [bx, bx]
      exact get _ e
    have hpx : Relax.back bf x (j - i) = x := by
      rw [bx, per kv.length (by omega), hx]
    refine ⟨_, rfl, by show 1 ≤ sizeLine; decide, fun R hR => ?_⟩
    have s1 := same_new (o := .lst [V.int x]) hR
    have e1 : upd H1 R (.lst [V.int x]) R = some (.lst [V.int x]) := upd_same
    have nBR : B ≠ R := ne_of_none b1 hR
    have b1 := s1 _ _ b1
    generalize upd H1 R (.lst [V.int x]) = H2 at s1 e1 b1
    refine ⟨_, rfl, _, rfl, B, _, rfl, getx 0 b1, ?_⟩
    refine ⟨fun m σ' H' => ∃ qq, m + qq = j - i ∧ 1 ≤ m ∧ σ' = [some (.int x), some (.ref B), v2, some (.ref R), some (.int (Relax.back bf x (qq + 1)))] ∧ H' R = some (.lst (((List.range (qq + 1)).map (Relax.back bf x)).map V.int)) ∧ H' B = some (.dK kv) ∧ Same H1 H',
      ⟨j - i, 0, by omega, by omega, rfl, e1, b1, s1⟩, ?_⟩
    rintro m σ' H3 ⟨qq, m1, m2, rfl, r1, r2, S3⟩
    refine ⟨_, rfl, _, rfl, rfl, _, rfl, ?_⟩
    by_cases c : Relax.back bf x (qq + 1) = x
    · refine if_f (by simp [c]) ?_
      refine ⟨_, rfl, .inl ⟨rfl, _, SqL.of r1⟩, R, _, rfl, rfl, r1, ?_⟩
      refine ⟨_, rfl, k R _ hR (fun b o e => (upd_ne (ne_of_none e hR)).trans (S3 _ _ e)) ⟨((List.range (qq + 1)).map (Relax.back bf x)).reverse, ?_, ?_, ?_, fun y hy => ?_⟩⟩
      · rw [upd_same, List.map_reverse]
      · intro z
        have := congrArg List.length z
        simp at this
      · rw [List.length_reverse, List.length_map, List.length_range]
        omega
      · obtain ⟨y1, _, rfl⟩ := List.mem_map.mp (List.mem_reverse.mp hy)
        rw [bx]
        exact hin _
    · refine if_t (by simp [c]) ?_
      have hlt : qq + 1 < j - i := by
        rcases Nat.lt_or_ge (qq + 1) (j - i) with z | z
        · exact z
        · have : qq + 1 = j - i := by omega
          rw [this] at c
          exact absurd hpx c
      refine ⟨fun σ' H' => σ' = [some (.int x), some (.ref B), v2, some (.ref R), some (.int (Relax.back bf x (qq + 1 + 1)))] ∧ H' R = some (.lst (((List.range (qq + 1 + 1)).map (Relax.back bf x)).map V.int)) ∧ H' B = some (.dK kv) ∧ Same H1 H',
        fun σ' H' h => ⟨m - 1, by omega, qq + 1, by omega, by omega, h⟩, ?_⟩
      refine ⟨_, rfl, .inl ⟨rfl, _, SqL.of r1⟩, _, rfl, R, _, _, rfl, rfl, r1, small1000 (by rw [List.length_map, List.length_map, List.length_range]; omega), ?_⟩
      have r2' : upd H3 R (.lst (((List.range (qq + 1)).map (Relax.back bf x)).map V.int ++ [V.int (Relax.back bf x (qq + 1))])) B = some (.dK kv) := (upd_ne nBR).trans r2
      refine ⟨_, rfl, _, rfl, B, _, rfl, getx (qq + 1) r2', rfl, ?_, r2', fun b o e => (upd_ne (ne_of_none e hR)).trans (S3 _ _ e)⟩
      rw [upd_same, List.range_succ (n := qq + 1), List.map_append, List.map_append]
      rfl
set_option maxHeartbeats 0 in
theorem ok_fnd2 {f fRb : Addr} {fd fdRb : FuncData} (F : Fun K "_find_ring" "_find_ring" sFnd f fd) (T : FiTxt mg fRb) (GRb : FnOk P w K mg base CX0 1 fRb fdRb ["node", "before"] spRgb) (FRb : Fun K "_ring_behind" "_ring_behind" sRgb fRb fdRb) (bRb : Binds K fdRb ["node", "before"] []) : FnOk P w K mg base CX0 2 f fd ["size", "told"] spFnd2 := by
  obtain ⟨tk, hgr⟩ := T.ground
  refine F.ok scFnd (fun vs H Q E h => ?_) (fun cdv A outer s H vs Q E hr h => ?_)
  · obtain ⟨n, t, es, rfl, _⟩ := h
    rfl
  · obtain ⟨n, t, es, rfl, ht, ln, le, hin, kA, kB⟩ := h
    have hr1 : Room 1 _ := hr.mono (by decide)
    refine ⟨_, (pss_cons (DcX.ps_setDc (i := 2) (own := [("node", 3)]) (g := gName 3) (tt := tYes) rfl scFnd.nd rfl rfl (DcX.swd_true rfl rfl rfl (by decide +kernel)) (pi_range2 (by rfl) T.range (pa_cons (pe_glob (v := .int (-1)) rfl hgr ⟨_, rfl⟩) (pa_cons (pv 0) pa_nil)))
        (blkOk_by (own := [("node", 3)]) (N := ["size", "told", "sums", "node", "before", "changed", "_", "first", "second", "most"]) (sc := defScope sFnd) (by decide +kernel)) (fun _ _ _ _ _ => pg_name (i := 3) scFnd.nd rfl (Or.inl rfl)) (fun _ _ _ _ _ => pts_nil) (fun _ _ _ _ _ => pv 3) (fun _ _ _ _ _ => pe_int))
      (pss_cons (ps_set (i := 4) scFnd.nd rfl (Or.inl rfl) pe_dnewK)
      (pss_cons (ps_set (i := 5) scFnd.nd rfl (Or.inl rfl) (pe_lst pa_nil))
      (pss_cons (ps_for PassesOwn.never rfl (pi_range2 (by rfl) T.range (pa_cons (pe_glob (v := .int (-1)) rfl hgr ⟨_, rfl⟩) (pa_cons (pv 0) pa_nil))) (pg_name (i := 6) scFnd.nd rfl (Or.inl rfl)) (pss_cons (ps_set (i := 5) scFnd.nd rfl (Or.inl rfl) (pe_lst pa_nil))
      (pss_one (ps_lock (ps_for PassesOwn.never rfl (DTX.pi_itemsT (pv 1)) (pg_tup (by rfl) (pgs_cons (pg_tup (by rfl) (pgs_cons (pg_name (i := 7) scFnd.nd rfl (Or.inl rfl)) (pgs_cons (pg_name (i := 8) scFnd.nd rfl (Or.inl rfl)) pgs_nil))) (pgs_cons (pg_name (i := 9) scFnd.nd rfl (Or.inl rfl)) pgs_nil))) (pss_one (ps_if (pt_cmpR op_lt (pe_op op_add (pe_dget (hu_of hr) (pv 2) (pv 7) (fun _ _ => rfl)) (pv 9)) (pe_dget (hu_of hr) (pv 2) (pv 8) (fun _ _ => rfl)) (nomark _)) (pss_cons (ps_dput (hu_of hr) (pv 2) (pv 8) (pe_op op_add (pe_dget (hu_of hr) (pv 2) (pv 7) (fun _ _ => rfl)) (pv 9)) rfl)
      (pss_cons (ps_dput (hu_of hr) (pv 4) (pv 8) (pv 7) rfl)
      (pss_one (ps_expr (pe_bm PySem.F.plainAttrs_list PySem.F.slot_list_append PySem.F.type_list_append mt_append (pv 5) (pa_cons (pv 8) pa_nil)))))) pss_nil)))))))
      (pss_cons (ps_if (pt_not (pt_truth (pv 5) (by intro _; rfl))) (pss_one (ps_ret (pe_lst pa_nil))) pss_nil)
      (pss_one (ps_ret (pe_call GRb hr1 rfl T.rgb FRb.kp bRb .nil pass0 (pa_cons (pe_ix ix_list (pv 5) (pe_un un_neg pe_int) (fun _ _ => rfl)) (pa_cons (pv 4) pa_nil)))))))))), ?_⟩
    have en : ((n : Int) - -1).toNat = n + 1 := by omega
    refine ⟨_, rfl, _, _, rfl, ⟨by omega, by omega, by omega, by omega⟩, fun D hD => ?_⟩
    rw [en]
    refine DcX.dc_it (walk_range (lo := -1) (n := n + 1)) (fun i H' => (∃ kv : List (Key × V), H' D = some (.dK kv) ∧ kv.length ≤ i ∧ ∀ v : Int, -1 ≤ v → v < -1 + (i : Int) → valV kv (.inl v) = some (.int 0)) ∧ Same H H') ⟨⟨[], upd_same, Nat.le_refl _, fun v h1 h2 => absurd h2 (by omega)⟩, same_new hD⟩ (fun _ _ _ _ => trivial) ?_ ?_
    · rintro i x H1 H2 hi ⟨⟨kv, a1, a2, a3⟩, S1⟩ ⟨rfl, rfl⟩
      refine ⟨rfl, _, rfl, _, .inl (-1 + (i : Int)), rfl, a1, small1000 (by omega), ⟨_, upd_same, Nat.le_trans (putLen _ _ _) (by omega), fun v h1 h2 => ?_⟩, fun b o e => ?_⟩
      · rw [valV_put]
        by_cases z : v = -1 + (i : Int)
        · subst z
          rw [if_pos rfl]
        · rw [if_neg fun w => z (Sum.inl.inj w)]
          exact a3 v h1 (by omega)
      · rw [upd_ne (ne_of_none e hD)]
        exact S1 _ _ e
    rintro H1 ⟨⟨kv, a1, a2, a3⟩, S1⟩
    have SA : SumsAt H1 D n (Relax.rounds es 0) := ⟨kv, a1, a2, fun v h1 h2 => a3 v h1 (by omega)⟩
    refine fun B hB => ?_
    have nDB : D ≠ B := ne_of_none a1 hB
    have s2 := same_new (o := .dK []) hB
    have S2 := same_tr S1 s2
    have SA := SA.of_eq (H' := upd H1 B (.dK [])) (upd_ne nDB)
    have eB : upd H1 B (.dK []) B = some (.dK []) := upd_same
    have hB0 : H B = none := none_back S1 hB
    generalize upd H1 B (.dK []) = H2 at SA S2 eB
    refine ⟨by show 0 ≤ sizeLine; decide, fun C0 hC0 => ?_⟩
    have s3 := same_new (o := .lst []) hC0
    have hC00 := none_back S2 hC0
    have S3 := same_tr S2 s3
    have SA := SA.of_eq (H' := upd H2 C0 (.lst [])) (upd_ne (ne_of_none (show H2 D = some (.dK (Classical.choose SA)) from (Classical.choose_spec SA).1) hC0))
    have eB := s3 _ _ eB
    have eC : upd H2 C0 (.lst []) C0 = some (.lst []) := upd_same
    generalize upd H2 C0 (.lst []) = H3 at SA S3 eB eC
    let Shp : Prop := ∃ pi : Int → Int, ∀ e ∈ es, pi e.2.1 - pi e.1 ≤ e.2.2
    have nDt : D ≠ t := fun z => by rw [z, ht] at hD; cases hD
    have nBt : B ≠ t := fun z => by rw [z, ht] at hB0; cases hB0
    refine ⟨_, rfl, _, _, rfl, ⟨by omega, by omega, by omega, by omega⟩, ?_⟩
    rw [en]
    refine for_it (walk_range (lo := -1) (n := n + 1)) (fun i σ' H' => ∃ (C : Addr) (v3 v6 v7 v8 v9 : Option V) (cl : List Int) (kb : List (Key × V)) (bf : Int → Option Int) (tt : Int → Nat), σ' = [some (.int n), some (.ref t), some (.ref D), v3, some (.ref B), some (.ref C), v6, v7, v8, v9] ∧
      SumsAt H' D n (Relax.rounds es i) ∧ (H' B = some (.dK kb) ∧ kb.length ≤ i * es.length ∧ ∀ v : Int, -1 ≤ v → v < n → valV kb (.inl v) = (bf v).map V.int) ∧ H' C = some (.lst (cl.map V.int)) ∧ H C = none ∧ (Shp → i = n + 1 → cl = []) ∧ Same H H' ∧
      ((i = 0 ∧ Relax.RInv es n 1 [] (Relax.rounds es i) bf tt) ∨ (1 ≤ i ∧ Relax.RInv es n i es (Relax.rounds es i) bf tt ∧ (∀ v ∈ cl, tt v = i ∧ -1 ≤ v ∧ v < n) ∧ (cl = [] → ∀ e ∈ es, Relax.rounds es i e.2.1 ≤ Relax.rounds es i e.1 + e.2.2))))
      ⟨C0, _, _, _, _, _, [], [], fun _ => none, fun _ => 0, rfl, SA, ⟨eB, by simp, fun v _ _ => rfl⟩, eC, hC00, fun _ _ => rfl, S3, .inl ⟨rfl, Relax.RInv.start es n _⟩⟩ (fun _ _ _ _ _ => trivial) ?_ ?_
    · rintro i x σ' H4 H5 hi ⟨C1, v3, v6, v7, v8, v9, cl1, kb0, bf0, tt0, rfl, SA4, ⟨b1, b2, b3⟩, c1, c2, c3, S4, RO⟩ ⟨rfl, rfl⟩
      have R0 : Relax.RInv es n (i + 1) [] (Relax.rounds es i) bf0 tt0 := by
        rcases RO with ⟨rfl, r⟩ | ⟨_, r, _⟩
        · exact r
        · exact r.next
      refine ⟨by show 0 ≤ sizeLine; decide, fun C hC => ?_⟩
      have s5 := same_new (o := .lst []) hC
      have hC0 := none_back S4 hC
      have S5 := same_tr S4 s5
      have nDC : D ≠ C := ne_of_none (Classical.choose_spec SA4).1 hC
      have nBC : B ≠ C := ne_of_none b1 hC
      have SA5 := SA4.of_eq (H' := upd H5 C (.lst [])) (upd_ne nDC)
      have b1 := s5 _ _ b1
      have eC : upd H5 C (.lst []) C = some (.lst []) := upd_same
      generalize upd H5 C (.lst []) = H6 at SA5 S5 b1 eC
      have nCt : C ≠ t := fun z => by rw [z, ht] at hC0; cases hC0
      refine ⟨t, .dT (kvT es), S5 _ _ ht, trivial, fun od => ?_⟩
      refine ⟨_, rfl, t, od, kvT es, rfl, upd_same, ?_⟩
      have kl : (kvT es).length = es.length := by unfold kvT; rw [List.length_map]
      refine for_it DTX.walk_itemsT (fun j σ' H' => ∃ (v7 v8 v9 : Option V) (cl : List Int) (kb : List (Key × V)) (bf : Int → Option Int) (tt : Int → Nat), σ' = [some (.int n), some (.ref t), some (.ref D), v3, some (.ref B), some (.ref C), some (.int (-1 + (i : Int))), v7, v8, v9] ∧
        H' t = some (.frz od (.dT (kvT es))) ∧ SumsAt H' D n ((es.take j).foldl Relax.relax (Relax.rounds es i)) ∧ (H' B = some (.dK kb) ∧ kb.length ≤ i * es.length + j ∧ ∀ v : Int, -1 ≤ v → v < n → valV kb (.inl v) = (bf v).map V.int) ∧
        (H' C = some (.lst (cl.map V.int)) ∧ cl.length ≤ j ∧ (Shp → i = n → cl = [] ∧ (es.take j).foldl Relax.relax (Relax.rounds es i) = Relax.rounds es i)) ∧ SameB t H H' ∧ Relax.RInv es n (i + 1) (es.take j) ((es.take j).foldl Relax.relax (Relax.rounds es i)) bf tt ∧ (∀ v ∈ cl, tt v = i + 1 ∧ -1 ≤ v ∧ v < n) ∧
        (cl = [] → (es.take j).foldl Relax.relax (Relax.rounds es i) = Relax.rounds es i ∧ ∀ e ∈ es.take j, Relax.rounds es i e.2.1 ≤ Relax.rounds es i e.1 + e.2.2))
        ⟨_, _, _, [], kb0, bf0, tt0, rfl, upd_same, SA5.of_eq (upd_ne nDt), ⟨(upd_ne nBt).trans b1, b2, b3⟩, ⟨(upd_ne nCt).trans eC, Nat.le_refl _, fun _ _ => ⟨rfl, rfl⟩⟩, fun b o nb e => (upd_ne nb).trans (S5 _ _ e), R0, (fun _ h => by cases h), fun _ => ⟨rfl, fun e he => by cases he⟩⟩ (fun _ _ _ _ h => by obtain ⟨_, _, _, _, _, _, _, _, z, _⟩ := h; exact z) ?_ ?_
      · rintro j x σ' H7 H8 hj ⟨v7, v8, v9, cl, kb, bf, tt, rfl, ft, SJ, ⟨k1, k2, k3⟩, ⟨l1, l2, l3⟩, SB, RI, cT, cE⟩ ⟨T0, q0, kk, vv, e1, rfl, e2, hT, rfl⟩
        rw [kl] at hj
        obtain ⟨⟨u, v, m⟩, he⟩ : ∃ e, es[j]? = some e := ⟨_, List.getElem?_eq_getElem hj⟩
        unfold kvT at e1
        rw [List.getElem?_map, he] at e1
        cases e1
        have sT := same_new (o := .tup [V.ref q0, V.int m]) hT
        have em := List.mem_of_getElem? he
        obtain ⟨⟨u1, u2⟩, w1, w2⟩ := hin _ em
        have et : (es.take (j + 1)).foldl Relax.relax (Relax.rounds es i) = Relax.relax ((es.take j).foldl Relax.relax (Relax.rounds es i)) (u, v, m) := by
          rw [List.take_succ, he, Option.toList_some, List.foldl_append]
          rfl
        refine ⟨T0, _, rfl, SqT.of upd_same, rfl, _, _, rfl, q0, _, rfl, SqT.of (sT _ _ e2), rfl, _, _, rfl, _, _, rfl, rfl, _, _, rfl, rfl, ?_⟩
        have nD0 : D ≠ T0 := ne_of_none (Classical.choose_spec SJ).1 hT
        have SK := SJ.of_eq (H' := upd H7 T0 (.tup [V.ref q0, V.int m])) (upd_ne nD0)
        have k1 := sT _ _ k1
        have l1 := sT _ _ l1
        have ft := sT _ _ ft
        have SB2 : SameB t H (upd H7 T0 (.tup [V.ref q0, V.int m])) := fun b o nb e => sT _ _ (SB b o nb e)
        generalize upd H7 T0 (.tup [V.ref q0, V.int m]) = H8 at SK k1 l1 ft SB2
        generalize hS : (es.take j).foldl Relax.relax (Relax.rounds es i) = S at SK et l3 RI cE
        have etk : es.take (j + 1) = es.take j ++ [(u, v, m)] := by rw [List.take_succ, he]; rfl
        have G1 := SK.get u1 u2
        have G2 := SK.get w1 w2
        refine ⟨_, rfl, _, rfl, D, _, rfl, G1, _, rfl, _, _, rfl, rfl, _, rfl, _, rfl, D, _, rfl, G2, _, _, rfl, rfl, _, rfl, ?_⟩
        by_cases c : S u + m < S v
        · refine if_t (decide_eq_true c) ?_
          have er : Relax.relax S (u, v, m) = Relax.put S v (S u + m) := if_pos c
          obtain ⟨H9, p1, p2, p3⟩ := SK.put (x := S u + m) w1 w2 ln
          refine ⟨_, rfl, _, rfl, D, _, rfl, G1, _, rfl, _, _, rfl, rfl, _, rfl, _, rfl, D, H9, rfl, p1, ?_⟩
          have k9 := (p3 B (Ne.symm nDB)).trans k1
          have l9 := (p3 C (Ne.symm nDC)).trans l1
          have f9 := (p3 t (Ne.symm nDt)).trans ft
          have hij : i * es.length + j ≤ 200000 := by
            have a : i * es.length ≤ 201 * 900 := Nat.mul_le_mul (by omega) le
            omega
          refine ⟨_, rfl, _, rfl, _, rfl, B, _, rfl, DPut.k (k := .inl v) k9 (by rw [sizeLine_eq]; omega), ?_⟩
          have l10 : upd H9 B (.dK (putK kb (.inl v) (.int u))) C = some (.lst (cl.map V.int)) := (upd_ne (Ne.symm nBC)).trans l9
          refine ⟨_, rfl, .inl ⟨rfl, _, SqL.of l10⟩, _, rfl, C, cl.map V.int, _, rfl, rfl, l10, small1000 (by rw [List.length_map]; omega), ?_⟩
          have RN := RI.relax em (by omega) ⟨u1, u2⟩ c
          refine ⟨_, _, _, cl ++ [v], putK kb (.inl v) (.int u), _, _, rfl, ?_, ?_, ⟨?_, ?_, fun a a1 a2 => ?_⟩, ⟨by rw [upd_same, List.map_append]; rfl, ?_, fun sh z => ?_⟩, fun b o nb e => ?_, by rw [et, er, etk]; exact RN, fun a ha => ?_, fun z => ?_⟩
          · rw [upd_ne (Ne.symm nCt), upd_ne (Ne.symm nBt)]
            exact f9
          · rw [et, er]
            exact p2.of_eq (by rw [upd_ne nDC, upd_ne nDB])
          · rw [upd_ne nBC, upd_same]
            rfl
          · have := putLen kb (.inl v) (.int u)
            omega
          · rw [valV_put]
            by_cases z : a = v
            · subst z
              rw [if_pos rfl, if_pos rfl]
              rfl
            · rw [if_neg z, if_neg (fun w => z (Sum.inl.inj w))]
              exact k3 a a1 a2
          · rw [List.length_append]
            show cl.length + 1 ≤ j + 1
            omega
          · obtain ⟨pi, hpi⟩ := sh
            have st := Relax.settled (n := n + 1) (lo := -1) (k := n) hpi (fun e he => by have := hin e he; omega) (Nat.le_refl _) _ em
            have e3 := (l3 ⟨pi, hpi⟩ z).2
            subst z
            rw [e3] at c
            have st : Relax.rounds es i v ≤ Relax.rounds es i u + m := st
            omega
          · have nbD : b ≠ D := ne_of_none e hD
            have nbB : b ≠ B := ne_of_none e hB0
            have nbC : b ≠ C := ne_of_none e hC0
            rw [upd_ne nbC, upd_ne nbB, p3 b nbD]
            exact SB2 b o nb e
          · show (if a = v then i + 1 else tt a) = i + 1 ∧ _
            rcases List.mem_append.mp ha with h | h
            · obtain ⟨q1, q2⟩ := cT a h
              refine ⟨?_, q2⟩
              split
              · rfl
              · exact q1
            · rw [List.mem_singleton] at h
              rw [if_pos h, h]
              exact ⟨rfl, w1, w2⟩
          · have := congrArg List.length z
            simp at this
        · refine if_f (decide_eq_false c) ?_
          have er : Relax.relax S (u, v, m) = S := if_neg c
          have cle : S v ≤ S u + m := by omega
          refine ⟨_, _, _, cl, kb, bf, tt, rfl, ft, by rw [et, er]; exact SK, ⟨k1, by omega, k3⟩, ⟨l1, by omega, fun sh z => ⟨(l3 sh z).1, by rw [et, er]; exact (l3 sh z).2⟩⟩, SB2, by rw [et, er, etk]; exact RI.keep cle, cT, fun z => ?_⟩
          obtain ⟨q1, q2⟩ := cE z
          refine ⟨by rw [et, er]; exact q1, fun e he' => ?_⟩
          rw [etk] at he'
          rcases List.mem_append.mp he' with h | h
          · exact q2 e h
          · rw [List.mem_singleton] at h
            subst h
            rw [← q1]
            exact cle
      · rintro σ' H7 ⟨v7, v8, v9, cl, kb, bf, tt, rfl, ft, SJ, ⟨k1, k2, k3⟩, ⟨l1, l2, l3⟩, SB, RI, cT, cE⟩
        rw [kl] at SJ k2 l2 l3 RI cE
        rw [List.take_length] at SJ l3 RI cE
        refine ⟨ft, C, v3, _, v7, v8, v9, cl, kb, bf, tt, rfl, SJ.of_eq (upd_ne nDt), ⟨(upd_ne nBt).trans k1, by rw [Nat.add_mul, Nat.one_mul]; exact k2, k3⟩, (upd_ne nCt).trans l1, hC0, fun sh z => (l3 sh (by omega)).1, fun b o e => ?_, .inr ⟨by omega, RI, cT, fun z e he => ?_⟩⟩
        rotate_left
        · obtain ⟨q1, q2⟩ := cE z
          show es.foldl Relax.relax (Relax.rounds es i) e.2.1 ≤ es.foldl Relax.relax (Relax.rounds es i) e.1 + e.2.2
          rw [q1]
          exact q2 e he
        by_cases z : b = t
        · subst z
          rw [ht] at e
          cases e
          exact upd_same
        · rw [upd_ne z]
          exact SB _ _ z e
    · rintro σ' H4 ⟨C1, v3, v6, v7, v8, v9, cl1, kb0, bf, tt, rfl, SA4, ⟨b1, b2, b3⟩, c1, c2, c3, S4, RO⟩
      obtain ⟨RI, cT, cE⟩ : Relax.RInv es n (n + 1) es (Relax.rounds es (n + 1)) bf tt ∧ (∀ v ∈ cl1, tt v = n + 1 ∧ -1 ≤ v ∧ v < n) ∧ (cl1 = [] → ∀ e ∈ es, Relax.rounds es (n + 1) e.2.1 ≤ Relax.rounds es (n + 1) e.1 + e.2.2) := by
        rcases RO with ⟨z, _⟩ | ⟨_, r⟩
        · exact absurd z (by omega)
        · exact r
      by_cases sh : Shp
      · obtain rfl := c3 sh rfl
        refine ⟨_, rfl, false, .inl ⟨[], SqL.of c1, rfl⟩, if_t rfl ?_⟩
        exact ⟨by show 0 ≤ sizeLine; decide, fun q hq => kA sh q _ (none_back S4 hq) (same_tr S4 (same_new hq)) upd_same⟩
      · have hne : cl1 ≠ [] := fun z => sh ⟨Relax.rounds es (n + 1), fun e he => by have := cE z e he; omega⟩
        have hlen : 0 < cl1.length := List.length_pos_iff.mpr hne
        refine ⟨_, rfl, true, .inl ⟨_, SqL.of c1, by cases cl1 with | nil => exact absurd rfl hne | cons x r => rfl⟩, if_f rfl ?_⟩
        obtain ⟨v, hv⟩ : ∃ v, cl1[cl1.length - 1]? = some v := ⟨_, List.getElem?_eq_getElem (by omega)⟩
        have av : atI (cl1.map V.int) (-1) = some (V.int v) := by
          unfold atI ixN
          rw [if_neg (by omega), if_pos (by rw [List.length_map]; omega)]
          show (cl1.map V.int)[((-1 : Int) + ((cl1.map V.int).length : Int)).toNat]? = _
          rw [List.length_map, show ((-1 : Int) + (cl1.length : Int)).toNat = cl1.length - 1 by omega, List.getElem?_map, hv]
          rfl
        obtain ⟨tv, vr⟩ := cT v (List.mem_of_getElem? hv)
        obtain ⟨i1, j1, r1, r2, r3, r4, r5, r6⟩ := Relax.ring_of RI tv vr
        have hij : (n + 1) * es.length ≤ 201 * 900 := Nat.mul_le_mul (by omega) le
        refine ⟨_, rfl, _, rfl, C1, _, -1, _, rfl, rfl, SqL.of c1, av, _, rfl, v, B, n, i1, j1, bf, rfl, ⟨kb0, b1, Nat.le_trans b2 (Nat.le_trans hij (by decide)), b3⟩, r1, r2, ln, r3, r4, r5, r6, fun q H' nq s R => ?_⟩
        exact kB sh q H' (none_back S4 nq) (same_tr S4 s) R
end
end Law



/-! The least sums of a site. -/
namespace Law
open PySem PySem.Spec PyProof.Rows L2 Sup
abbrev sLst : Stmt := top 29
abbrev sFst : Stmt := top 30
abbrev sSby : Stmt := top 31
theorem ix_listK (K : PySem.W.Frag) {X : Cx} (h : X.K = K) : IxR X (rIxL K) := h ▸ ix_list
theorem pi_listK (K : PySem.W.Frag) {X : Cx} {tg l : Expr} {tl : TE} (h : X.K = K) (hl : PE X l tl) : PI X tg l (iList K tl) := h ▸ pi_list hl
def firstSum (es : List Edge) (a b : Int) : Int := if a = b then 0 else match es.find? (likeE (a, b, 0)) with
  | some e => e.2.2
  | none => match es.find? (likeE (-1, b, 0)) with
    | some e => e.2.2
    | none => 0
def lessOf (st known more : Int) : Int := if known ≤ st + more then known else st + more
def sumsBy (row : List Int) (st : Int) (on : List Int) : List Int := List.zipWith (lessOf st) row on
def nodesI (n : Nat) : List Int := (List.range n).map (fun (i : Nat) => (i : Int)) ++ [-1]
def fwStep (M : List (List Int)) (k : Int) : List (List Int) := M.map fun row => sumsBy row ((atI row k).getD 0) ((atI M k).getD [])
def firstTab (n : Nat) (es : List Edge) : List (List Int) := (nodesI n).map fun a => (nodesI n).map fun b => firstSum es a b
def leastSums (n : Nat) (es : List Edge) : List (List Int) := (nodesI n).foldl fwStep (firstTab n es)
/-- a square of m rows -/
def Sqr (m : Nat) (M : List (List Int)) : Prop := M.length = m ∧ ∀ row ∈ M, row.length = m
def TabAt (H : Hp) (p : Addr) (M : List (List Int)) : Prop := ∃ ts : List Addr, H p = some (.lst (ts.map V.ref)) ∧ ts.length = M.length ∧ ∀ (i : Nat) (t : Addr) (row : List Int), ts[i]? = some t → M[i]? = some row → H t = some (.lst (row.map V.int))
def Full (n : Nat) (es : List Edge) : Prop := ∀ a ∈ nodesI n, ∀ b ∈ nodesI n, a ≠ b → es.find? (likeE (a, b, 0)) = none → es.find? (likeE (-1, b, 0)) ≠ none
theorem nodesI_len (n : Nat) : (nodesI n).length = n + 1 := by unfold nodesI; simp
theorem nodesI_mem {n : Nat} {a : Int} (h : a ∈ nodesI n) : -1 ≤ a ∧ a < n := by
  unfold nodesI at h
  rcases List.mem_append.mp h with h | h
  · obtain ⟨i, hi, rfl⟩ := List.mem_map.mp h
    have := List.mem_range.mp hi
    omega
  · rw [List.mem_singleton] at h
    subst h
    omega
theorem TabAt.same {H H' : Hp} {p : Addr} {M : List (List Int)} (h : TabAt H p M) (s : Same H H') : TabAt H' p M := by
  obtain ⟨ts, h1, h2, h3⟩ := h
  exact ⟨ts, s _ _ h1, h2, fun i t e e1 e2 => s _ _ (h3 i t e e1 e2)⟩
theorem neRow {H : Hp} {t D : Addr} {ts : List Addr} {row : List Int} (h : H D = some (.lst (ts.map V.ref))) (h' : H t = some (.lst (row.map V.int))) (hr : row ≠ []) : t ≠ D := fun z => by
  rw [z, h] at h'
  have e := HO.lst.inj (Option.some.inj h')
  cases row with
  | nil => exact hr rfl
  | cons x row =>
    cases ts with
    | nil => cases e
    | cons t ts => cases e
theorem TabAt.push {H : Hp} {D q : Addr} {M : List (List Int)} {row : List Int} (h : TabAt H D M) (hq : H q = some (.lst (row.map V.int))) (hM : ∀ r ∈ M, r ≠ []) (hr : row ≠ []) (hl : M.length ≤ 900) :
    ∃ acc, H D = some (.lst acc) ∧ acc.length < sizeLine ∧ TabAt (upd H D (.lst (acc ++ [.ref q]))) D (M ++ [row]) := by
  obtain ⟨ts, h1, h2, h3⟩ := h
  refine ⟨_, h1, small1000 (by rw [List.length_map]; omega), ts ++ [q], by rw [upd_same, List.map_append]; rfl, by simp [h2], fun i t r e1 e2 => ?_⟩
  by_cases hi : i < ts.length
  · rw [List.getElem?_append_left hi] at e1
    rw [List.getElem?_append_left (by omega)] at e2
    have z := h3 i t r e1 e2
    rw [upd_ne (neRow h1 z (hM r (List.mem_of_getElem? e2)))]
    exact z
  · rw [List.getElem?_append_right (by omega)] at e1 e2
    have ei : i - ts.length = 0 := by
      have := (List.getElem?_eq_some_iff.mp e1).1
      simp at this
      omega
    have ej : i - M.length = 0 := by omega
    rw [ei] at e1
    rw [ej] at e2
    cases e1
    cases e2
    rw [upd_ne (neRow h1 hq hr)]
    exact hq
theorem sumsBy_len (row : List Int) (st : Int) (on : List Int) (h : on.length = row.length) : (sumsBy row st on).length = row.length := by
  unfold sumsBy
  rw [List.length_zipWith, h, Nat.min_self]
theorem atI_some {α : Type} {xs : List α} {n : Nat} {k : Int} (hl : xs.length = n + 1) (h1 : -1 ≤ k) (h2 : k < n) : ∃ x, atI xs k = some x ∧ x ∈ xs ∧ xs[if k < 0 then n else k.toNat]? = some x := by
  unfold atI ixN
  by_cases c : 0 ≤ k
  · rw [if_pos c, if_pos (by omega), if_neg (by omega)]
    have hk : k.toNat < xs.length := by omega
    exact ⟨xs[k.toNat], by show xs[k.toNat]? = _; exact List.getElem?_eq_getElem hk, List.getElem_mem hk, List.getElem?_eq_getElem hk⟩
  · rw [if_neg c, if_pos (by omega), if_pos (by omega)]
    have hk : n < xs.length := by omega
    have e : (k + (xs.length : Int)).toNat = n := by omega
    rw [e]
    exact ⟨xs[n], by show xs[n]? = _; exact List.getElem?_eq_getElem hk, List.getElem_mem hk, List.getElem?_eq_getElem hk⟩
theorem atI_map {α β : Type} (f : α → β) (xs : List α) (k : Int) : atI (xs.map f) k = (atI xs k).map f := by
  unfold atI
  rw [List.length_map]
  cases ixN xs.length k with
  | none => rfl
  | some j => show (xs.map f)[j]? = (xs[j]?).map f; rw [List.getElem?_map]
theorem fwStep_sqr {n : Nat} {M : List (List Int)} {k : Int} (h : Sqr (n + 1) M) (h1 : -1 ≤ k) (h2 : k < n) : Sqr (n + 1) (fwStep M k) := by
  obtain ⟨a, b⟩ := h
  refine ⟨by unfold fwStep; rw [List.length_map]; exact a, fun row hr => ?_⟩
  unfold fwStep at hr
  obtain ⟨r, hr', rfl⟩ := List.mem_map.mp hr
  obtain ⟨o, ho, hm, _⟩ := atI_some a h1 h2
  rw [ho]
  show (sumsBy r _ o).length = _
  rw [sumsBy_len _ _ _ (by rw [b _ hm, b _ hr'])]
  exact b _ hr'
theorem firstTab_sqr (n : Nat) (es : List Edge) : Sqr (n + 1) (firstTab n es) := by
  refine ⟨by unfold firstTab; rw [List.length_map, nodesI_len], fun row h => ?_⟩
  unfold firstTab at h
  obtain ⟨a, _, rfl⟩ := List.mem_map.mp h
  rw [List.length_map, nodesI_len]
theorem fold_sqr {n : Nat} : ∀ (ks : List Int) {M : List (List Int)}, Sqr (n + 1) M → (∀ k ∈ ks, -1 ≤ k ∧ k < n) → Sqr (n + 1) (ks.foldl fwStep M)
  | [], _, h, _ => h
  | k :: ks, _, h, hk => fold_sqr ks (fwStep_sqr h (hk k List.mem_cons_self).1 (hk k List.mem_cons_self).2) fun x hx => hk x (List.mem_cons_of_mem _ hx)
structure LsTxt (mg : Str → Option Value) (fFs fSb : Addr) : Prop where
  ground : ∃ t, mg "GROUND" = some (.int (-1) t)
  range : mg "range" = none
  list : mg "list" = none
  zip : mg "zip" = none
  fst : mg "_first_sum" = some (.ref fFs)
  sby : mg "_sums_by" = some (.ref fSb)
def spFst : Sp := fun vs H Q _ => ∃ (t : Addr) (es : List Edge) (a b : Int), vs = [.ref t, .int a, .int b] ∧ H t = some (.dT (kvT es)) ∧ (a ≠ b → es.find? (likeE (a, b, 0)) = none → es.find? (likeE (-1, b, 0)) ≠ none) ∧ ∀ H', Same H H' → Q (.int (firstSum es a b)) H'
def spSby : Sp := fun vs H Q _ => ∃ (r o : Addr) (st : Int) (R O : List Int), vs = [.ref r, .int st, .ref o] ∧ H r = some (.lst (R.map V.int)) ∧ H o = some (.lst (O.map V.int)) ∧ O.length = R.length ∧ R.length ≤ 900 ∧
  ∀ (q : Addr) (H' : Hp), H q = none → Same H H' → H' q = some (.lst ((sumsBy R st O).map V.int)) → Q (.ref q) H'
def spLst : Sp := fun vs H Q _ => ∃ (n : Nat) (t : Addr) (es : List Edge), vs = [.int n, .ref t] ∧ H t = some (.dT (kvT es)) ∧ n ≤ 200 ∧ Full n es ∧
  ∀ (q : Addr) (H' : Hp), H q = none → Same H H' → TabAt H' q (leastSums n es) → Q (.ref q) H'
section
variable {P : Program} {w : World} {K : PySem.W.Frag} {mg : Str → Option Value} {base : Heap} {fFs fSb : Addr}
theorem scFst : FnScope ["told", "first", "second"] ["told", "first", "second"] (defScope sFst) := ⟨rfl, rfl, rfl, by decide +kernel, rfl, by decide +kernel, by decide +kernel⟩
theorem scSby : FnScope ["row", "step", "onward", "known", "more"] ["row", "step", "onward"] (defScope sSby) := ⟨rfl, rfl, rfl, by decide +kernel, rfl, by decide +kernel, by decide +kernel⟩
theorem scLst : FnScope ["size", "told", "nodes", "table", "first", "second", "node", "onward", "row"] ["size", "told"] (defScope sLst) := ⟨rfl, rfl, rfl, by decide +kernel, rfl, by decide +kernel, by decide +kernel⟩
set_option maxHeartbeats 0 in
theorem ok_fst {f : Addr} {fd : FuncData} (F : Fun K "_first_sum" "_first_sum" sFst f fd) (T : LsTxt mg fFs fSb) : FnOk P w K mg base CX0 1 f fd ["told", "first", "second"] spFst := by
  obtain ⟨tk, hgr⟩ := T.ground
  refine F.ok scFst (fun vs H Q E h => ?_) (fun cdv A outer s H vs Q E hr h => ?_)
  · obtain ⟨t, es, a, b, rfl, _⟩ := h
    rfl
  · obtain ⟨t, es, a, b, rfl, ht, hf, k⟩ := h
    refine ⟨_, (pss_cons (ps_if (pt_cmpR op_eq (pv 1) (pv 2) (nomark _)) (pss_one (ps_ret pe_int)) pss_nil)
      (pss_one (ps_ret (pe_dget2 (hu_of hr) (pv 0) (pe_tup (pa_cons (pv 1) (pa_cons (pv 2) pa_nil))) (pe_dget1 (hu_of hr) (pv 0) (pe_tup (pa_cons (pe_glob (v := .int (-1)) rfl hgr ⟨_, rfl⟩) (pa_cons (pv 2) pa_nil))) ⟨rfl, rfl, rfl, rfl⟩) ⟨rfl, rfl, rfl, rfl⟩)))), ?_⟩
    refine ⟨_, rfl, _, rfl, rfl, _, rfl, ?_⟩
    by_cases c : a = b
    · refine if_t (by simp [c]) ?_
      have z := k H same_rfl
      unfold firstSum at z
      rw [if_pos c] at z
      exact z
    · refine if_f (by simp [c]) ?_
      refine ⟨_, rfl, t, rfl, .inr ⟨_, .inl ht⟩, _, rfl, _, rfl, by show 2 ≤ sizeLine; decide, fun k1 hk1 => ?_⟩
      have s1 := same_new (o := .tup [V.int a, V.int b]) hk1
      have t1 := s1 _ _ ht
      have e1 : upd H k1 (.tup [V.int a, V.int b]) k1 = some (.tup ((keyT (a, b, 0)).map kV)) := upd_same
      generalize upd H k1 (.tup [V.int a, V.int b]) = H1 at s1 t1 e1
      refine ⟨_, rfl, t, rfl, .inr ⟨_, .inl t1⟩, _, rfl, by show 2 ≤ sizeLine; decide, fun k2 hk2 => ?_⟩
      have s2 := same_new (o := .tup [V.int (-1), V.int b]) hk2
      have t2 := s2 _ _ t1
      have e2 : upd H1 k2 (.tup [V.int (-1), V.int b]) k2 = some (.tup ((keyT (-1, b, 0)).map kV)) := upd_same
      have e1' := s2 _ _ e1
      generalize upd H1 k2 (.tup [V.int (-1), V.int b]) = H2 at s2 t2 e2 e1'
      refine ⟨_, DGet.t t2 e2, _, DGet.t t2 e1', ?_⟩
      rw [val_kvT, val_kvT]
      have z := k H2 (same_tr s1 s2)
      unfold firstSum at z
      rw [if_neg c] at z
      cases q1 : es.find? (likeE (a, b, 0)) with
      | some e =>
        rw [q1] at z
        exact z
      | none =>
        rw [q1] at z
        cases q2 : es.find? (likeE (-1, b, 0)) with
        | some e =>
          rw [q2] at z
          exact z
        | none => exact absurd q2 (hf c q1)
set_option maxHeartbeats 0 in
theorem ok_sby {f : Addr} {fd : FuncData} (F : Fun K "_sums_by" "_sums_by" sSby f fd) (T : LsTxt mg fFs fSb) : FnOk P w K mg base CX0 1 f fd ["row", "step", "onward"] spSby := by
  refine F.ok scSby (fun vs H Q E h => ?_) (fun cdv A outer s H vs Q E hr h => ?_)
  · obtain ⟨r, o, st, R, O, rfl, _⟩ := h
    rfl
  · obtain ⟨r, o, st, R, O, rfl, hR, hO, hl, h9, k⟩ := h
    refine ⟨_, (pss_one (ps_ret (pe_lc (own := [("known", 3), ("more", 4)]) (g := gTup K 2 (gCons (gName 3) (gCons (gName 4) gNil))) (tt := tYes) (by rfl) scSby.nd (pi_zip (by rfl) T.zip (pa_cons (pv 0) (pa_cons (pv 2) pa_nil)))
        (blkOk_by (own := [("known", 3), ("more", 4)]) (N := ["row", "step", "onward", "known", "more"]) (sc := defScope sSby) (by decide +kernel)) (fun _ _ _ _ _ => by exact (pg_tup (n := 2) rfl (pgs_cons (pg_name (i := 3) scSby.nd rfl (Or.inl rfl)) (pgs_cons (pg_name (i := 4) scSby.nd rfl (Or.inl rfl)) pgs_nil)))) (fun _ _ _ _ _ => pts_nil) (fun _ _ _ _ _ => (pe_ifExp (pt_cmpR op_le (pv 3) (pe_op op_add (pv 1) (pv 4)) (nomark _)) (pv 3) (pe_op op_add (pv 1) (pv 4))))))), ?_⟩
    refine ⟨_, rfl, _, rfl, r, o, _, _, rfl, SqL.of hR, SqL.of hO, fun D hD => ?_⟩
    have sl := sumsBy_len R st O hl
    refine lc_it (walk_zip (n := R.length) (by rw [List.length_map, List.length_map]; omega)) (fun i H' => H' D = some (.lst (((sumsBy R st O).take i).map V.int)) ∧ Same H H') ⟨by rw [upd_same]; rfl, same_new hD⟩ (fun _ _ _ h => ⟨SqL.of (h.2 _ _ hR), SqL.of (h.2 _ _ hO)⟩) ?_ ?_
    · rintro i x H1 H2 hi ⟨a1, S1⟩ ⟨T0, x1, y1, rfl, hT, rfl, h1, h2⟩
      have h1 : (R.map V.int)[i]? = some x1 := h1
      have h2 : (O.map V.int)[i]? = some y1 := h2
      have hiO : i < O.length := by omega
      rw [List.getElem?_map, List.getElem?_eq_getElem hi] at h1
      rw [List.getElem?_map, List.getElem?_eq_getElem hiO] at h2
      cases h1
      cases h2
      have sT := same_new (o := .tup [V.int R[i], V.int O[i]]) hT
      have eT : (sumsBy R st O)[i]? = some (lessOf st R[i] O[i]) := by
        unfold sumsBy
        rw [List.getElem?_zipWith, List.getElem?_eq_getElem hi, List.getElem?_eq_getElem hiO]
      have fin : ∃ acc, upd H1 T0 (.tup [V.int R[i], V.int O[i]]) D = some (.lst acc) ∧ acc.length < sizeLine ∧ (fun i H' => H' D = some (.lst (((sumsBy R st O).take i).map V.int)) ∧ Same H H') (i + 1) (upd (upd H1 T0 (.tup [V.int R[i], V.int O[i]])) D (.lst (acc ++ [V.int (lessOf st R[i] O[i])]))) := by
        refine ⟨_, sT _ _ a1, small1000 (by rw [List.length_map, List.length_take]; omega), ?_, fun b o e => ?_⟩
        · rw [upd_same, List.take_succ, eT, Option.toList_some, List.map_append]
          rfl
        · rw [upd_ne (ne_of_none e hD)]
          exact sT _ _ (S1 _ _ e)
      refine ⟨T0, _, rfl, SqT.of upd_same, rfl, _, _, rfl, _, _, rfl, rfl, rfl, ?_⟩
      refine ⟨_, rfl, _, rfl, _, rfl, _, _, rfl, rfl, _, _, rfl, rfl, ?_⟩
      refine ⟨_, rfl, ?_⟩
      by_cases c : R[i] ≤ st + O[i]
      · have e : lessOf st R[i] O[i] = R[i] := if_pos c
        rw [e] at fin
        exact if_t (decide_eq_true c) ⟨_, rfl, fin⟩
      · have e : lessOf st R[i] O[i] = st + O[i] := if_neg c
        rw [e] at fin
        exact if_f (decide_eq_false c) ⟨_, rfl, _, rfl, _, _, rfl, rfl, fin⟩
    · rintro H1 ⟨a1, S1⟩
      rw [← sl, List.take_length] at a1
      exact k D H1 hD S1 a1
set_option maxHeartbeats 0 in
theorem ok_lst {f : Addr} {fd fdFs fdSb : FuncData} (F : Fun K "_least_sums" "_least_sums" sLst f fd) (T : LsTxt mg fFs fSb) (FFs : Fun K "_first_sum" "_first_sum" sFst fFs fdFs) (bFs : Binds K fdFs ["told", "first", "second"] []) (FSb : Fun K "_sums_by" "_sums_by" sSby fSb fdSb) (bSb : Binds K fdSb ["row", "step", "onward"] []) : FnOk P w K mg base CX0 2 f fd ["size", "told"] spLst := by
  have GFs : FnOk P w K mg base CX0 1 fFs fdFs ["told", "first", "second"] spFst := ok_fst FFs T
  have GSb : FnOk P w K mg base CX0 1 fSb fdSb ["row", "step", "onward"] spSby := ok_sby FSb T
  obtain ⟨tk, hgr⟩ := T.ground
  refine F.ok scLst (fun vs H Q E h => ?_) (fun cdv A outer s H vs Q E hr h => ?_)
  · obtain ⟨n, t, es, rfl, _⟩ := h
    rfl
  · obtain ⟨n, t, es, rfl, ht, hn, hF, k⟩ := h
    have hr1 : Room 1 _ := hr.mono (by decide)
    refine ⟨_, (pss_cons (ps_set (i := 2) scLst.nd rfl (Or.inr rfl) (pe_op op_cat (pe_listRg rfl (by rfl) T.list (prg_1 (by rfl) T.range (pv 0))) (pe_lst (pa_cons (pe_glob (v := .int (-1)) rfl hgr ⟨_, rfl⟩) pa_nil))))
      (pss_cons (ps_setLc (i := 3) (own := [("first", 4)]) (g := gName 4) (tt := tYes) (by rfl) scLst.nd rfl rfl (sw_true rfl rfl rfl (by decide +kernel)) (pi_list (pv 2)) (blkOk_by (own := [("first", 4)]) (N := ["size", "told", "nodes", "table", "first", "second", "node", "onward", "row"]) (sc := defScope sLst) (by decide +kernel)) (fun _ _ _ _ _ => pg_name (i := 4) scLst.nd rfl (Or.inr rfl)) (fun _ _ _ _ _ => pts_nil) (fun _ _ _ _ _ => by exact (pe_lc (own := [("second", 5)]) (g := gName 5) (tt := tYes) (by rfl) scLst.nd (pi_listK K rfl (pv 2)) (blkOk_by (own := [("second", 5)]) (N := ["size", "told", "nodes", "table", "first", "second", "node", "onward", "row"]) (sc := { kind := .function, names := [(".0", .local), ("first", .cell), ("nodes", .cell), ("told", .cell)], isGenerator := false, isCoroutine := false }) (by decide +kernel)) (fun _ _ _ _ _ => pg_name (i := 5) scLst.nd rfl (Or.inl rfl)) (fun _ _ _ _ _ => pts_nil) (fun _ _ _ _ _ => by exact (pe_call GFs hr1 rfl T.fst FFs.kp bFs .nil pass0 (pa_cons (pv 1) (pa_cons (pv 4) (pa_cons (pv 5) pa_nil))))))))
      (pss_cons (ps_for PassesOwn.never rfl (pi_list (pv 2)) (pg_name (i := 6) scLst.nd rfl (Or.inr rfl)) (pss_cons (ps_set (i := 7) scLst.nd rfl (Or.inr rfl) (pe_ix ix_list (pv 3) (pv 6) (fun _ _ => rfl)))
      (pss_one (ps_setLc (i := 3) (own := [("row", 8)]) (g := gName 8) (tt := tYes) (by rfl) scLst.nd rfl rfl (sw_true rfl rfl rfl (by decide +kernel)) (pi_list (pv 3)) (blkOk_by (own := [("row", 8)]) (N := ["size", "told", "nodes", "table", "first", "second", "node", "onward", "row"]) (sc := defScope sLst) (by decide +kernel)) (fun _ _ _ _ _ => pg_name (i := 8) scLst.nd rfl (Or.inl rfl)) (fun _ _ _ _ _ => pts_nil) (fun _ _ _ _ _ => (pe_call GSb hr1 rfl T.sby FSb.kp bSb .nil pass0 (pa_cons (pv 8) (pa_cons (pe_ix (ix_listK K rfl) (pv 8) (pv 6) (fun _ _ => rfl)) (pa_cons (pv 7) pa_nil)))))))))
      (pss_one (ps_ret (pv 3)))))), ?_⟩
    refine ⟨_, rfl, _, rfl, ⟨by omega, by omega, by omega, by omega, by omega⟩, fun q1 hq1 => ?_⟩
    have s1 := same_new (o := .lst (rgV 0 n)) hq1
    have e1 : upd H q1 (.lst (rgV 0 n)) q1 = some (.lst (rgV 0 n)) := upd_same
    generalize upd H q1 (.lst (rgV 0 n)) = H1 at s1 e1
    refine ⟨by show 1 ≤ sizeLine; decide, fun q2 hq2 => ?_⟩
    have s2 := same_new (o := .lst [V.int (-1)]) hq2
    have e2 : upd H1 q2 (.lst [V.int (-1)]) q2 = some (.lst [V.int (-1)]) := upd_same
    have e1 := s2 _ _ e1
    have S2 := same_tr s1 s2
    generalize upd H1 q2 (.lst [V.int (-1)]) = H2 at S2 e1 e2
    have ln : rgV 0 n ++ [V.int (-1)] = (nodesI n).map V.int := by
      unfold rgV nodesI
      rw [List.map_append, List.map_map, Int.sub_zero, Int.toNat_natCast]
      congr 1
      refine List.map_congr_left fun i _ => ?_
      show V.int (0 + (i : Int)) = V.int (i : Int)
      rw [Int.zero_add]
    refine ⟨q1, q2, _, _, rfl, rfl, e1, e2, by rw [rgV_length, sizeLine_eq]; simp; omega, fun lp hlp => ?_⟩
    rw [ln]
    have s3 := same_new (o := .lst ((nodesI n).map V.int)) hlp
    have e3 : upd H2 lp (.lst ((nodesI n).map V.int)) lp = some (.lst ((nodesI n).map V.int)) := upd_same
    have S3 := same_tr S2 s3
    generalize upd H2 lp (.lst ((nodesI n).map V.int)) = H3 at S3 e3
    have nl := nodesI_len n
    have t3 := S3 _ _ ht
    refine ⟨_, rfl, lp, rfl, ⟨_, SqL.of e3⟩, fun D hD => ?_⟩
    have fts := firstTab_sqr n es
    have ftl : (firstTab n es).length = n + 1 := fts.1
    refine lc_it (walk_list (xs := (nodesI n).map V.int)) (fun i H' => TabAt H' D ((firstTab n es).take i) ∧ Same H3 H') ⟨⟨[], upd_same, rfl, fun i t e z => by cases z⟩, same_new hD⟩ (fun _ _ _ h => SqL.of (h.2 _ _ e3)) ?_ ?_
    · rintro i x H4 H5 hi ⟨B, S4⟩ ⟨rfl, hx⟩
      rw [List.length_map] at hi
      rw [List.getElem?_map, List.getElem?_eq_getElem hi] at hx
      cases hx
      have am : (nodesI n)[i] ∈ nodesI n := List.getElem_mem hi
      generalize ha : (nodesI n)[i] = a at am
      refine ⟨rfl, _, rfl, lp, rfl, ⟨_, SqL.of (S4 _ _ e3)⟩, fun D2 hD2 => ?_⟩
      have er : (firstTab n es)[i]? = some ((nodesI n).map fun b => firstSum es a b) := by
        unfold firstTab
        rw [List.getElem?_map, List.getElem?_eq_getElem hi, ha]
        rfl
      refine lc_it (walk_list (xs := (nodesI n).map V.int)) (fun j H' => H' D2 = some (.lst ((((nodesI n).map fun b => firstSum es a b).take j).map V.int)) ∧ Same H5 H') ⟨upd_same, same_new hD2⟩ (fun _ _ _ h => SqL.of (h.2 _ _ (S4 _ _ e3))) ?_ ?_
      · rintro j x H6 H7 hj ⟨b1, S6⟩ ⟨rfl, hx⟩
        rw [List.length_map] at hj
        rw [List.getElem?_map, List.getElem?_eq_getElem hj] at hx
        cases hx
        have bm : (nodesI n)[j] ∈ nodesI n := List.getElem_mem hj
        refine ⟨rfl, _, rfl, _, rfl, _, rfl, t, es, a, (nodesI n)[j], rfl, S6 _ _ (S4 _ _ t3), fun c d => hF a am _ bm c d, fun H8 s8 => ?_⟩
        refine ⟨_, s8 _ _ b1, small1000 (by rw [List.length_map, List.length_take]; omega), ?_, fun b o e => ?_⟩
        · rw [upd_same, List.take_succ, List.getElem?_map, List.getElem?_eq_getElem hj, List.map_append]
          rfl
        · rw [upd_ne (ne_of_none e hD2)]
          exact s8 _ _ (S6 _ _ e)
      · rintro H6 ⟨b1, S6⟩
        rw [List.length_map, List.take_of_length_le (by rw [List.length_map]; omega)] at b1
        have B6 := B.same S6
        obtain ⟨acc, c1, c2, c3⟩ := B6.push b1 (fun r hr => by
          have := fts.2 r (List.mem_of_mem_take hr)
          intro z
          rw [z] at this
          cases this) (fun z => by have := congrArg List.length z; rw [List.length_map, nl] at this; cases this) (by rw [List.length_take]; omega)
        refine ⟨acc, c1, c2, ?_, fun b o e => ?_⟩
        · rw [List.take_succ, er]
          exact c3
        · rw [upd_ne (ne_of_none e hD)]
          exact S6 _ _ (S4 _ _ e)
    · rintro H4 ⟨B, S4⟩
      rw [List.length_map, nl, List.take_of_length_le (by omega)] at B
      have S5 := same_tr S3 S4
      refine ⟨_, rfl, lp, rfl, ⟨_, SqL.of (S4 _ _ e3)⟩, ?_⟩
      refine for_it (walk_list (xs := (nodesI n).map V.int)) (fun i σ' H' => ∃ (tb : Addr) (v4 v5 v6 v7 v8 : Option V), σ' = [some (.int n), some (.ref t), some (.ref lp), some (.ref tb), v4, v5, v6, v7, v8] ∧ H tb = none ∧ TabAt H' tb (((nodesI n).take i).foldl fwStep (firstTab n es)) ∧ Same H4 H')
        ⟨D, _, _, _, _, _, rfl, none_back S3 hD, B, same_rfl⟩ (fun i σ' H' _ h => by obtain ⟨_, _, _, _, _, _, _, _, _, z⟩ := h; exact SqL.of (z _ _ (S4 _ _ e3))) ?_ ?_
      · rintro i x σ' H5 H6 hi ⟨tb, v4, v5, v6, v7, v8, rfl, htb, B5, S6⟩ ⟨rfl, hx⟩
        rw [List.length_map] at hi
        rw [List.getElem?_map, List.getElem?_eq_getElem hi] at hx
        cases hx
        have am : (nodesI n)[i] ∈ nodesI n := List.getElem_mem hi
        have et : ((nodesI n).take (i + 1)).foldl fwStep (firstTab n es) = fwStep (((nodesI n).take i).foldl fwStep (firstTab n es)) (nodesI n)[i] := by
          rw [List.take_succ, List.getElem?_eq_getElem hi, Option.toList_some, List.foldl_append]
          rfl
        have sq := fold_sqr ((nodesI n).take i) fts fun k hk => nodesI_mem (List.mem_of_mem_take hk)
        obtain ⟨k1, k2⟩ := nodesI_mem am
        generalize (nodesI n)[i] = kk at am et k1 k2
        generalize ((nodesI n).take i).foldl fwStep (firstTab n es) = M at B5 et sq
        obtain ⟨ts, b1, b2, b3⟩ := id B5
        obtain ⟨O, o1, o2, o3⟩ := atI_some sq.1 k1 k2
        obtain ⟨oA, p1, p2, p3⟩ := atI_some (b2.trans sq.1) k1 k2
        have hO := b3 _ _ _ p3 o3
        have aR : atI (ts.map V.ref) kk = some (.ref oA) := by rw [atI_map, p1]; rfl
        refine ⟨_, rfl, _, rfl, tb, _, kk, _, rfl, rfl, SqL.of b1, aR, ?_⟩
        refine ⟨_, rfl, tb, rfl, ⟨_, SqL.of b1⟩, fun D2 hD2 => ?_⟩
        have fl : (fwStep M kk).length = n + 1 := (fwStep_sqr sq k1 k2).1
        refine lc_it (walk_list (xs := ts.map V.ref)) (fun j H' => TabAt H' D2 ((fwStep M kk).take j) ∧ Same H6 H') ⟨⟨[], upd_same, rfl, fun i t e z => by cases z⟩, same_new hD2⟩ (fun _ _ _ h => SqL.of (h.2 _ _ b1)) ?_ ?_
        · rintro j x H7 H8 hj ⟨B7, S8⟩ ⟨rfl, hx⟩
          rw [List.length_map] at hj
          rw [List.getElem?_map, List.getElem?_eq_getElem hj] at hx
          cases hx
          obtain ⟨R, hR⟩ : ∃ r, M[j]? = some r := ⟨_, List.getElem?_eq_getElem (by omega)⟩
          have rm := List.mem_of_getElem? hR
          have rl := sq.2 R rm
          have hr8 := S8 _ _ (b3 j _ R (List.getElem?_eq_getElem hj) hR)
          obtain ⟨st, u1, u2, u3⟩ := atI_some rl k1 k2
          have aS : atI (R.map V.int) kk = some (.int st) := by rw [atI_map, u1]; rfl
          have el : (fwStep M kk)[j]? = some (sumsBy R st O) := by
            unfold fwStep
            rw [List.getElem?_map, hR, o1]
            show some (sumsBy R ((atI R kk).getD 0) O) = _
            rw [u1]
            rfl
          have ol := sq.2 O o2
          refine ⟨rfl, _, rfl, _, rfl, _, rfl, _, _, kk, _, rfl, rfl, SqL.of hr8, aS, _, rfl, ts[j], oA, st, R, O, rfl, hr8, S8 _ _ hO, by omega, by omega, fun q H9 hq s9 e9 => ?_⟩
          have B9 := B7.same s9
          obtain ⟨acc, c1, c2, c3⟩ := B9.push e9 (fun r hr => by
            have := (fwStep_sqr sq k1 k2).2 r (List.mem_of_mem_take hr)
            intro z
            rw [z] at this
            cases this) (fun z => by have := congrArg List.length z; rw [sumsBy_len _ _ _ (by omega), rl] at this; cases this) (by rw [List.length_take]; omega)
          refine ⟨acc, c1, c2, ?_, fun b o e => ?_⟩
          · rw [List.take_succ, el]
            exact c3
          · rw [upd_ne (ne_of_none e hD2)]
            exact s9 _ _ (S8 _ _ e)
        · rintro H7 ⟨B7, S8⟩
          rw [List.length_map, b2, sq.1, List.take_of_length_le (by omega)] at B7
          exact ⟨D2, _, _, _, _, _, rfl, none_back (same_tr S5 S6) hD2, by rw [et]; exact B7, same_tr S6 S8⟩
      · rintro σ' H5 ⟨tb, v4, v5, v6, v7, v8, rfl, htb, B5, S6⟩
        rw [List.length_map, nl, List.take_of_length_le (by omega)] at B5
        exact ⟨_, rfl, k tb H5 htb (same_tr S5 S6) B5⟩
end
end Law

/-! What is checked of walls and links. -/
namespace Law
open PySem PySem.Spec PyProof.Rows L2 Sup
abbrev sCro : Stmt := top 18
abbrev sCnu : Stmt := top 19
abbrev sCli : Stmt := top 20
/-- an error that is due -/
inductive Due where
  | name (y : Str) | taken (y : Str) | num (x : Int) | many (n : Int) | place (x : Int)
  deriving DecidableEq
/-- the way out by it, from any heap of which S is true -/
def DueX (C : Errs) (E : XK) (S : Hp → Prop) : Due → Prop
  | .name y => ∀ (H' : Hp) (d : Addr), S H' → H' d = none → E (.ref C.N) (some d) (upd H' d (.xd [("name", .str y)]))
  | .taken y => ∀ (H' : Hp) (d : Addr), S H' → H' d = none → E (.ref C.T) (some d) (upd H' d (.xd [("name", .str y)]))
  | .num x => ∀ (H' : Hp) (d : Addr), S H' → H' d = none → E (.ref C.B) (some d) (upd H' d (.xd [("value", .int x)]))
  | .many x => ∀ (H' : Hp) (d : Addr), S H' → H' d = none → E (.ref C.M) (some d) (upd H' d (.xd [("count", .int x)]))
  | .place x => ∀ (H' : Hp) (d : Addr), S H' → H' d = none → E (.ref C.P) (some d) (upd H' d (.xd [("place", .int x)]))
theorem DueX.mono {C : Errs} {E : XK} {S S' : Hp → Prop} {b : Due} (h : DueX C E S b) (k : ∀ H', S' H' → S H') : DueX C E S' b := by
  cases b <;> exact fun H' d s hd => h H' d (k H' s) hd
def numDue (top slope : Int) (spans : List Int) : Option Int := if top < 0 then some top else if slope < 0 then some slope else spans.find? fun x => decide (x < 1)
def rowsDue : List Str → List Wal → Option Due
  | _, [] => none
  | acc, w :: r => if badN w.1 = true then some (.name w.1) else if acc.contains w.1 = true then some (.taken w.1) else match numDue w.2.1 w.2.2.1 w.2.2.2 with
    | some x => some (.num x)
    | none => rowsDue (acc ++ [w.1]) r
def linkDue (size : Int) (l : Lnk) : Option Int := if ¬ (0 ≤ l.1 ∧ l.1 < size) then some l.1 else if ¬ (0 ≤ l.2.1 ∧ l.2.1 < size) ∨ l.2.1 = l.1 then some l.2.1 else none
def linksDue (size : Int) (ls : List Lnk) : Option Int := ls.findSome? (linkDue size)
/-- walls that errors may tell -/
def WFit (w : Wal) : Prop := Fit w.1 ∧ Sz w.2.1 ∧ Sz w.2.2.1 ∧ ∀ x ∈ w.2.2.2, Sz x
def LFit (l : Lnk) : Prop := Sz l.1 ∧ Sz l.2.1
structure CkTxt (mg : Str → Option Value) (fCk fCn fCu : Addr) : Prop where
  chk : mg "check_not_negative" = some (.ref fCk)
  ckn : mg "check_name" = some (.ref fCn)
  cnu : mg "_check_numbers" = some (.ref fCu)
def spCnu (K : PySem.W.Frag) (C : Errs) : Sp := fun vs H Q E => ∃ (top slope : Int) (sp : Addr) (spans : List Int), vs = [.int top, .int slope, .ref sp] ∧ SqT K H sp (spans.map V.int) ∧ Sz top ∧ Sz slope ∧ (∀ x ∈ spans, Sz x) ∧
  (∀ x, numDue top slope spans = some x → DueX C E (Same H) (.num x)) ∧ (numDue top slope spans = none → Q .non H)
def spCro (K : PySem.W.Frag) (C : Errs) : Sp := fun vs H Q E => ∃ (p : Addr) (ws : List Wal), vs = [.ref p] ∧ WalsAt K H p ws ∧ ws.length ≤ 400 ∧ (∀ w ∈ ws, WFit w) ∧
  (∀ b, rowsDue [] ws = some b → DueX C E (Same H) b) ∧ (rowsDue [] ws = none → ∀ H', Same H H' → Q .non H')
def spCli (K : PySem.W.Frag) (C : Errs) : Sp := fun vs H Q E => ∃ (p : Addr) (ls : List Lnk) (size : Int), vs = [.ref p, .int size] ∧ LnksAt K H p ls ∧ (∀ l ∈ ls, LFit l) ∧
  (∀ x, linksDue size ls = some x → DueX C E (Same H) (.place x)) ∧ (linksDue size ls = none → Q .non H)
theorem Sz.ok {x : Int} (h : Sz x) : okInt (.int x) := ⟨x, rfl, log_of (by decide) (Nat.lt_of_lt_of_le h (Nat.pow_le_pow_right (by decide) (by decide)))⟩
section
variable {P : Program} {w : World} {K : PySem.W.Frag} {mg : Str → Option Value} {base : Heap} {C : Errs} {fCk fCn fCu : Addr}
theorem scCnu : FnScope ["top", "slope", "spans", "span"] ["top", "slope", "spans"] (defScope sCnu) := ⟨rfl, rfl, rfl, by decide +kernel, rfl, by decide +kernel, by decide +kernel⟩
theorem scCro : FnScope ["rows", "taken", "name", "top", "slope", "spans"] ["rows"] (defScope sCro) := ⟨rfl, rfl, rfl, by decide +kernel, rfl, by decide +kernel, by decide +kernel⟩
theorem scCli : FnScope ["links", "size", "first", "second", "_"] ["links", "size"] (defScope sCli) := ⟨rfl, rfl, rfl, by decide +kernel, rfl, by decide +kernel, by decide +kernel⟩
set_option maxHeartbeats 0 in
theorem ok_cnu {f : Addr} {fd fdCk : FuncData} (F : Fun K "_check_numbers" "_check_numbers" sCnu f fd) (RB : ErrOk P w K mg base "BadNumber" C.B "value" okInt) (FCk : Fun K "check_not_negative" "check_not_negative" sChk fCk fdCk) (bCk : Binds K fdCk ["number"] []) (T : CkTxt mg fCk fCn fCu) :
    FnOk P w K mg base (L2.CX P w) 5 f fd ["top", "slope", "spans"] (spCnu K C) := by
  have GCk : FnOk P w K mg base (L2.CX P w) 4 fCk fdCk ["number"] (spChk C.B) := ok_chk FCk RB
  refine F.okX scCnu (fun vs H Q E h => ?_) (fun cdv A outer s H vs Q E hr h => ?_)
  · obtain ⟨a, b, sp, spans, rfl, _⟩ := h
    rfl
  · obtain ⟨a, b, sp, spans, rfl, hsp, za, zb, zs, h1, h2⟩ := h
    have hr3 : Room 3 _ := hr.mono (by decide)
    have hrc : Room 4 _ := hr
    refine ⟨_, (pss_cons (ps_expr (pe_call (E := E) GCk hrc rfl T.chk FCk.kp bCk .nil (passes_call (takes_of rfl rfl rfl rfl) fun _ _ _ _ z => z) (pa_cons (pv 0) pa_nil)))
      (pss_cons (ps_expr (pe_call (E := E) GCk hrc rfl T.chk FCk.kp bCk .nil (passes_call (takes_of rfl rfl rfl rfl) fun _ _ _ _ z => z) (pa_cons (pv 1) pa_nil)))
      (pss_one (ps_for (passes_of rfl) rfl (pi_tup (pv 2)) (pg_name (i := 3) scCnu.nd rfl (Or.inl rfl)) (pss_one (ps_if (pt_cmpR op_lt (pv 3) pe_int (nomark _)) (pss_one (ps_err RB rfl (takes_of rfl rfl rfl rfl) hr3 (pa_cons (pv 3) pa_nil) rfl)) pss_nil)))))), ?_⟩
    refine ⟨_, rfl, a, rfl, za.t, fun c d hd => h1 a (by unfold numDue; rw [if_pos c]) H d same_rfl hd, fun ca => ?_⟩
    refine ⟨_, rfl, b, rfl, zb.t, fun c d hd => h1 b (by unfold numDue; rw [if_neg (by omega), if_pos c]) H d same_rfl hd, fun cb => ?_⟩
    have en : numDue a b spans = spans.find? fun x => decide (x < 1) := by unfold numDue; rw [if_neg (by omega), if_neg (by omega)]
    rw [en] at h1 h2
    refine ⟨_, rfl, sp, rfl, ⟨_, hsp⟩, ?_⟩
    refine for_it (walk_tup (xs := spans.map V.int)) (fun i σ' H' => (∃ v : Option V, σ' = [some (.int a), some (.int b), some (.ref sp), v]) ∧ H' = H ∧ (spans.take i).find? (fun x => decide (x < 1)) = none) ⟨⟨_, rfl⟩, rfl, rfl⟩ (fun _ _ _ _ h => by rw [h.2.1]; exact hsp) ?_ ?_
    · rintro i x σ' H1 H2 hi ⟨⟨v, rfl⟩, rfl, a1⟩ ⟨rfl, hx⟩
      rw [List.length_map] at hi
      rw [List.getElem?_map, List.getElem?_eq_getElem hi] at hx
      cases hx
      refine ⟨_, rfl, _, _, rfl, rfl, _, rfl, ?_⟩
      by_cases c : spans[i] < 1
      · refine if_t (decide_eq_true c) ⟨_, rfl, ?_⟩
        have e : spans.find? (fun x => decide (x < 1)) = some spans[i] := by
          conv => lhs; rw [← List.take_append_drop i spans]
          rw [List.find?_append, a1, Option.none_or, List.drop_eq_getElem_cons hi, List.find?_cons]
          simp [c]
        exact err_way (zs _ (List.getElem_mem hi)).ok fun d hd => h1 _ e _ d same_rfl hd
      · refine if_f (decide_eq_false c) ⟨⟨_, rfl⟩, rfl, ?_⟩
        rw [List.take_succ, List.getElem?_eq_getElem hi, List.find?_append, a1, Option.none_or]
        simp [c]
    · rintro σ' H1 ⟨⟨v, rfl⟩, rfl, a1⟩
      rw [List.length_map, List.take_length] at a1
      exact h2 a1
set_option maxHeartbeats 0 in
theorem ok_cro {f : Addr} {fd fdCk fdCn fdCu : FuncData} (F : Fun K "_check_rows" "_check_rows" sCro f fd) (RN : ErrOk P w K mg base "BadName" C.N "name" okTxt) (RT : ErrOk P w K mg base "TakenName" C.T "name" okTxt) (RB : ErrOk P w K mg base "BadNumber" C.B "value" okInt)
    (FCk : Fun K "check_not_negative" "check_not_negative" sChk fCk fdCk) (bCk : Binds K fdCk ["number"] []) (FCn : Fun K "check_name" "check_name" sCkn fCn fdCn) (bCn : Binds K fdCn ["name"] []) (FCu : Fun K "_check_numbers" "_check_numbers" sCnu fCu fdCu) (bCu : Binds K fdCu ["top", "slope", "spans"] [])
    (T : CkTxt mg fCk fCn fCu) (TN : NameTxt K mg) : FnOk P w K mg base (L2.CX P w) 6 f fd ["rows"] (spCro K C) := by
  have GCn : FnOk P w K mg base (L2.CX P w) 4 fCn fdCn ["name"] (spCkn C) := ok_ckn FCn RN TN
  have GCu : FnOk P w K mg base (L2.CX P w) 5 fCu fdCu ["top", "slope", "spans"] (spCnu K C) := ok_cnu FCu RB FCk bCk T
  refine F.okX scCro (fun vs H Q E h => ?_) (fun cdv A outer s H vs Q E hr h => ?_)
  · obtain ⟨p, ws, rfl, _⟩ := h
    rfl
  · obtain ⟨p, ws, rfl, hW, l4, hF, h1, h2⟩ := h
    have hr3 : Room 3 _ := hr.mono (by decide)
    have hrc : Room 5 _ := hr
    have hr4 : Room 4 _ := hr.mono (by decide)
    refine ⟨_, (pss_cons (ps_set (i := 1) scCro.nd rfl (Or.inl rfl) pe_dnewK)
      (pss_one (ps_for (passes_of rfl) rfl (pi_list (pv 0)) (pg_tup (by rfl) (pgs_cons (pg_name (i := 2) scCro.nd rfl (Or.inl rfl)) (pgs_cons (pg_name (i := 3) scCro.nd rfl (Or.inl rfl)) (pgs_cons (pg_name (i := 4) scCro.nd rfl (Or.inl rfl)) (pgs_cons (pg_name (i := 5) scCro.nd rfl (Or.inl rfl)) pgs_nil))))) (pss_cons (ps_expr (pe_call (E := E) GCn hr4 rfl T.ckn FCn.kp bCn .nil (passes_call (takes_of rfl rfl rfl rfl) fun _ _ _ _ z => z) (pa_cons (pv 2) pa_nil)))
      (pss_cons (ps_if (pt_cmp (pc_din (hu_of hr) (pv 2) (pv 1))) (pss_one (ps_err RT rfl (takes_of rfl rfl rfl rfl) hr3 (pa_cons (pv 2) pa_nil) rfl)) pss_nil)
      (pss_cons (ps_dput (hu_of hr) (pv 1) (pv 2) pe_bl rfl)
      (pss_one (ps_expr (pe_call (E := E) GCu hrc rfl T.cnu FCu.kp bCu .nil (passes_call (takes_of rfl rfl rfl rfl) fun _ _ _ _ z => z) (pa_cons (pv 3) (pa_cons (pv 4) (pa_cons (pv 5) pa_nil)))))))))))), ?_⟩
    refine fun D hD => ?_
    obtain ⟨ts, t1, t2, t3⟩ := id hW
    have S0 := same_new (o := .dK []) hD
    refine ⟨_, rfl, p, rfl, ⟨_, SqL.of (S0 _ _ t1)⟩, ?_⟩
    refine for_it (walk_list (xs := ts.map V.ref)) (fun i σ' H' => (∃ v2 v3 v4 v5 : Option V, σ' = [some (.ref p), some (.ref D), v2, v3, v4, v5]) ∧ (∃ kv : List (Key × V), H' D = some (.dK kv) ∧ kv.length ≤ i ∧ ∀ y : Str, (valV kv (.inr y)).isSome = ((ws.take i).map (·.1)).contains y) ∧ rowsDue ((ws.take i).map (·.1)) (ws.drop i) = rowsDue [] ws ∧ Same H H')
      ⟨⟨_, _, _, _, rfl⟩, ⟨[], upd_same, Nat.le_refl _, fun y => rfl⟩, rfl, S0⟩ (fun _ _ _ _ h => SqL.of (h.2.2.2 _ _ t1)) ?_ ?_
    · rintro i x σ' H1 H2 hi ⟨⟨v2, v3, v4, v5, rfl⟩, ⟨kv, d1, d2, d3⟩, a1, S1⟩ ⟨rfl, hx⟩
      rw [List.length_map] at hi
      rw [List.getElem?_map, List.getElem?_eq_getElem hi] at hx
      cases hx
      obtain ⟨⟨y, top, slope, spans⟩, hw⟩ : ∃ w, ws[i]? = some w := ⟨_, List.getElem?_eq_getElem (by omega)⟩
      obtain ⟨sp, z1, z2⟩ := (t3 i _ _ (List.getElem?_eq_getElem hi) hw).same S1
      obtain ⟨fy, f1, f2, f3⟩ := hF _ (List.mem_of_getElem? hw)
      have hiw : i < ws.length := by omega
      have ed : ws.drop i = (y, top, slope, spans) :: ws.drop (i + 1) := by
        rw [List.drop_eq_getElem_cons hiw]
        rw [List.getElem?_eq_getElem hiw] at hw
        rw [Option.some.inj hw]
      rw [ed] at a1
      refine ⟨_, _, rfl, SqT.of z1, rfl, _, _, rfl, _, _, rfl, _, _, rfl, _, _, rfl, rfl, ?_⟩
      refine ⟨_, rfl, y, rfl, fy, fun hb H' d s hd => h1 (.name y) (by rw [← a1]; unfold rowsDue; rw [if_pos hb]) H' d (same_tr S1 s) hd, fun hb => ?_⟩
      have hb' : ¬ badN y = true := by rw [hb]; decide
      refine ⟨_, rfl, _, rfl, D, _, rfl, DGet.k (k := .inr y) d1, _, rfl, ?_⟩
      rw [d3]
      by_cases c : ((ws.take i).map (·.1)).contains y = true
      · refine if_t c ⟨_, rfl, ?_⟩
        exact err_way fy.ok fun d hd => h1 (.taken y) (by rw [← a1]; unfold rowsDue; rw [if_neg hb', if_pos c]) _ d S1 hd
      · refine if_f (by simpa using c) ?_
        refine ⟨_, rfl, _, rfl, D, _, rfl, DPut.k (k := .inr y) d1 (small1000 (by omega)), ?_⟩
        have S2 : Same H (upd H2 D (.dK (putK kv (.inr y) (.bl true)))) := fun b o e => (upd_ne (ne_of_none e hD)).trans (S1 _ _ e)
        have nsD : SqT K (upd H2 D (.dK (putK kv (.inr y) (.bl true)))) sp (spans.map V.int) := by
          obtain ⟨sp', y1, y2⟩ := t3 i _ _ (List.getElem?_eq_getElem hi) hw
          have e' := S1 _ _ y1
          rw [z1] at e'
          cases e'
          exact sqT_same y2 S2
        refine ⟨_, rfl, _, rfl, _, rfl, top, slope, sp, spans, rfl, nsD, f1, f2, f3, fun x hx H' d s hd => h1 (.num x) (by rw [← a1]; unfold rowsDue; rw [if_neg hb', if_neg c, hx]) H' d (same_tr S2 s) hd, fun hn => ?_⟩
        have et : (ws.take (i + 1)).map (·.1) = (ws.take i).map (·.1) ++ [y] := by
          rw [List.take_succ, hw, List.map_append]
          rfl
        refine ⟨⟨_, _, _, _, rfl⟩, ⟨_, upd_same, Nat.le_trans (putLen _ _ _) (by omega), fun u => ?_⟩, ?_, S2⟩
        · show (valV (putK kv (.inr y) (.bl true)) (.inr u)).isSome = _
          rw [valV_put, et]
          by_cases e : u = y
          · subst e
            rw [if_pos rfl]
            simp
          · rw [if_neg fun z => e (Sum.inr.inj z), d3]
            simp [e]
        · rw [et, ← a1]
          conv => rhs; unfold rowsDue
          rw [if_neg hb', if_neg c]
          show _ = match numDue top slope spans with | some x => _ | none => _
          rw [hn]
    · rintro σ' H1 ⟨⟨v2, v3, v4, v5, rfl⟩, _, a1, S1⟩
      rw [List.length_map, t2, List.drop_length] at a1
      exact h2 a1.symm H1 S1
set_option maxHeartbeats 0 in
theorem ok_cli {f : Addr} {fd : FuncData} (F : Fun K "_check_links" "_check_links" sCli f fd) (RP : ErrOk P w K mg base "NoPlace" C.P "place" okInt) : FnOk P w K mg base (L2.CX P w) 4 f fd ["links", "size"] (spCli K C) := by
  refine F.okX scCli (fun vs H Q E h => ?_) (fun cdv A outer s H vs Q E hr h => ?_)
  · obtain ⟨p, ls, size, rfl, _⟩ := h
    rfl
  · obtain ⟨p, ls, size, rfl, hL, hF, h1, h2⟩ := h
    have hr3 : Room 3 _ := hr
    refine ⟨_, (pss_one (ps_for (passes_of rfl) rfl (pi_list (pv 0)) (pg_tup (by rfl) (pgs_cons (pg_name (i := 2) scCli.nd rfl (Or.inl rfl)) (pgs_cons (pg_name (i := 3) scCli.nd rfl (Or.inl rfl)) (pgs_cons (pg_name (i := 4) scCli.nd rfl (Or.inl rfl)) (pgs_cons (pg_name (i := 4) scCli.nd rfl (Or.inl rfl)) pgs_nil))))) (pss_cons (ps_if (pt_not (pt_chain op_le op_lt pe_int (pv 2) (pv 1))) (pss_one (ps_err RP rfl (takes_of rfl rfl rfl rfl) hr3 (pa_cons (pv 2) pa_nil) rfl)) pss_nil)
      (pss_one (ps_if (PW.pt (pw_or (pt_not (pt_chain op_le op_lt pe_int (pv 3) (pv 1))) (pw_or1 (pt_cmpR op_eq (pv 3) (pv 2) (nomark _))))) (pss_one (ps_err RP rfl (takes_of rfl rfl rfl rfl) hr3 (pa_cons (pv 3) pa_nil) rfl)) pss_nil))))), ?_⟩
    obtain ⟨ts, t1, t2, t3⟩ := id hL
    refine ⟨_, rfl, p, rfl, ⟨_, SqL.of t1⟩, ?_⟩
    refine for_it (walk_list (xs := ts.map V.ref)) (fun i σ' H' => (∃ v2 v3 v4 : Option V, σ' = [some (.ref p), some (.int size), v2, v3, v4]) ∧ H' = H ∧ linksDue size (ls.take i) = none) ⟨⟨_, _, _, rfl⟩, rfl, rfl⟩ (fun _ _ _ _ h => by rw [h.2.1]; exact SqL.of t1) ?_ ?_
    · rintro i x σ' H1 H2 hi ⟨⟨v2, v3, v4, rfl⟩, rfl, a1⟩ ⟨rfl, hx⟩
      rw [List.length_map] at hi
      rw [List.getElem?_map, List.getElem?_eq_getElem hi] at hx
      cases hx
      obtain ⟨⟨u, v, le, mo⟩, hl⟩ : ∃ l, ls[i]? = some l := ⟨_, List.getElem?_eq_getElem (by omega)⟩
      have z := t3 i _ _ (List.getElem?_eq_getElem hi) hl
      obtain ⟨f1, f2⟩ := hF _ (List.mem_of_getElem? hl)
      have hil : i < ls.length := by omega
      have ed : linksDue size ls = (linkDue size (u, v, le, mo)).or (linksDue size (ls.drop (i + 1))) := by
        conv => lhs; rw [← List.take_append_drop i ls]
        unfold linksDue at a1 ⊢
        rw [List.findSome?_append, a1, Option.none_or, List.drop_eq_getElem_cons hil, List.findSome?_cons]
        rw [List.getElem?_eq_getElem hil] at hl
        rw [Option.some.inj hl]
        cases linkDue size (u, v, le, mo) <;> rfl
      refine ⟨_, _, rfl, z, rfl, _, _, rfl, _, _, rfl, _, _, rfl, _, _, rfl, rfl, ?_⟩
      have er : ∀ {x}, Sz x → linkDue size (u, v, le, mo) = some x → okInt (.int x) ∧ ∀ d, H2 d = none → E (.ref C.P) (some d) (upd H2 d (.xd [("place", .int x)])) := fun {x} hx e => ⟨hx.ok, fun d hd => h1 x (by rw [ed, e]; rfl) _ d same_rfl hd⟩
      refine ⟨_, rfl, _, _, rfl, rfl, _, rfl, ?_⟩
      by_cases c0 : 0 ≤ u
      · refine if_t (decide_eq_true c0) ⟨_, rfl, _, _, rfl, rfl, _, rfl, ?_⟩
        by_cases c1 : u < size
        · refine if_f (by rw [decide_eq_true c1]; rfl) ?_
          have cu : ¬ ¬ (0 ≤ u ∧ u < size) := fun z => z ⟨c0, c1⟩
          have ev : ∀ {x}, x = v → (¬ (0 ≤ v ∧ v < size) ∨ v = u) → linkDue size (u, v, le, mo) = some x := fun {x} e z => by
            unfold linkDue
            rw [if_neg cu, if_pos z, e]
          refine ⟨_, rfl, _, _, rfl, rfl, _, rfl, ?_⟩
          by_cases d0 : 0 ≤ v
          · refine if_t (decide_eq_true d0) ⟨_, rfl, _, _, rfl, rfl, _, rfl, ?_⟩
            by_cases d1 : v < size
            · refine if_f (by rw [decide_eq_true d1]; rfl) ⟨_, rfl, _, rfl, rfl, _, rfl, ?_⟩
              by_cases d2 : v = u
              · refine if_t (by simp [d2]) ⟨_, rfl, ?_⟩
                obtain ⟨y1, y2⟩ := er f2 (ev rfl (.inr d2))
                exact err_way y1 y2
              · refine if_f (by simp [d2]) ⟨⟨_, _, _, rfl⟩, rfl, ?_⟩
                unfold linksDue at a1 ⊢
                rw [List.take_succ, hl, List.findSome?_append, a1, Option.none_or, Option.toList_some, List.findSome?_cons]
                unfold linkDue
                rw [if_neg cu, if_neg (show ¬ (¬ (0 ≤ v ∧ v < size) ∨ v = u) by omega)]
                rfl
            · refine if_t (by rw [decide_eq_false d1]; rfl) ?_
              refine if_t rfl ⟨_, rfl, ?_⟩
              obtain ⟨y1, y2⟩ := er f2 (ev rfl (.inl fun z => d1 z.2))
              exact err_way y1 y2
          · refine if_f (decide_eq_false d0) ⟨_, rfl, ?_⟩
            refine if_t rfl ?_
            refine if_t rfl ⟨_, rfl, ?_⟩
            obtain ⟨y1, y2⟩ := er f2 (ev rfl (.inl fun z => d0 z.1))
            exact err_way y1 y2
        · refine if_t (by rw [decide_eq_false c1]; rfl) ⟨_, rfl, ?_⟩
          obtain ⟨y1, y2⟩ := er f1 (by unfold linkDue; rw [if_pos (fun z => c1 z.2)])
          exact err_way y1 y2
      · refine if_f (decide_eq_false c0) ⟨_, rfl, ?_⟩
        refine if_t rfl ⟨_, rfl, ?_⟩
        obtain ⟨y1, y2⟩ := er f1 (by unfold linkDue; rw [if_pos (fun z => c0 z.1)])
        exact err_way y1 y2
    · rintro σ' H1 ⟨⟨v2, v3, v4, rfl⟩, rfl, a1⟩
      rw [List.length_map, t2, List.take_length] at a1
      exact h2 a1
end
end Law

/-! What is told: of the limits, one for each pair of nodes. -/
namespace Law
open PySem PySem.Spec PyProof.Rows L2 Sup
theorem putE_sub {x e : Edge} {es : List Edge} (h : x ∈ putE es e) : x ∈ es ∨ x = e := by
  unfold putE at h
  split at h
  · obtain ⟨y, hy, rfl⟩ := List.mem_map.mp h
    by_cases c : likeE e y = true
    · rw [if_pos c]
      exact .inr rfl
    · rw [if_neg c]
      exact .inl hy
  · rcases List.mem_append.mp h with h | h
    · exact .inl h
    · exact .inr (List.mem_singleton.mp h)
theorem tell_sub {x e : Edge} {es : List Edge} (h : x ∈ tell es e) : x ∈ es ∨ x = e := by
  unfold tell at h
  split at h
  · exact putE_sub h
  · split at h
    · exact putE_sub h
    · exact .inl h
theorem fold_sub : ∀ (fs es : List Edge) {x : Edge}, x ∈ fs.foldl tell es → x ∈ es ∨ x ∈ fs
  | [], es, x, h => .inl h
  | f :: fs, es, x, h => by
    rcases fold_sub fs (tell es f) h with h | h
    · rcases tell_sub h with h | h
      · exact .inl h
      · exact .inr (h ▸ List.mem_cons_self)
    · exact .inr (List.mem_cons_of_mem _ h)
theorem told_sub {ws : List Wal} {ls : List Lnk} {x : Edge} (h : x ∈ toldOf ws ls) : x ∈ limsOf ws ls := by
  rcases fold_sub _ _ h with h | h
  · cases h
  · exact h
def hasE (es : List Edge) (e : Edge) : Bool := es.any (likeE e)
theorem hasE_find (es : List Edge) (e : Edge) : hasE es e = (es.find? (likeE e)).isSome := by
  unfold hasE
  induction es with
  | nil => rfl
  | cons x es ih =>
    rw [List.any_cons, List.find?_cons]
    cases likeE e x with
    | true => rfl
    | false => rw [Bool.false_or]; exact ih
theorem like_iff {e x : Edge} : likeE e x = true ↔ x.1 = e.1 ∧ x.2.1 = e.2.1 := by
  unfold likeE
  exact decide_eq_true_iff
theorem putE_has {es : List Edge} {e k : Edge} (h : hasE es k = true ∨ likeE k e = true) : hasE (putE es e) k = true := by
  unfold hasE at h ⊢
  unfold putE
  split
  · rename_i c
    rw [List.any_map]
    rcases h with h | h
    · obtain ⟨x, hx, q⟩ := List.any_eq_true.mp h
      refine List.any_eq_true.mpr ⟨x, hx, ?_⟩
      show likeE k (if likeE e x = true then e else x) = true
      by_cases c : likeE e x = true
      · rw [if_pos c]
        have a := like_iff.mp c
        have b := like_iff.mp q
        exact like_iff.mpr ⟨a.1.symm.trans b.1, a.2.symm.trans b.2⟩
      · rw [if_neg c]
        exact q
    · obtain ⟨x, hx, q⟩ := List.any_eq_true.mp c
      refine List.any_eq_true.mpr ⟨x, hx, ?_⟩
      show likeE k (if likeE e x = true then e else x) = true
      rw [if_pos q]
      exact h
  · rw [List.any_append]
    rcases h with h | h
    · rw [h, Bool.true_or]
    · simp [h]
theorem tell_has {es : List Edge} {e k : Edge} (h : hasE es k = true ∨ likeE k e = true) : hasE (tell es e) k = true := by
  unfold tell
  split
  · exact putE_has h
  · rename_i x hx
    split
    · exact putE_has h
    · rcases h with h | h
      · exact h
      · unfold hasE
        have a := like_iff.mp h
        have b := like_iff.mp (List.find?_some hx)
        exact List.any_eq_true.mpr ⟨x, List.mem_of_find?_eq_some hx, like_iff.mpr ⟨b.1.trans a.1, b.2.trans a.2⟩⟩
theorem fold_has : ∀ (fs es : List Edge) {k : Edge}, (hasE es k = true ∨ ∃ e ∈ fs, likeE k e = true) → hasE (fs.foldl tell es) k = true
  | [], es, k, h => by
    rcases h with h | ⟨e, he, _⟩
    · exact h
    · cases he
  | f :: fs, es, k, h => by
    refine fold_has fs (tell es f) ?_
    rcases h with h | ⟨e, he, q⟩
    · exact .inl (tell_has (.inl h))
    · rcases List.mem_cons.mp he with rfl | he
      · exact .inl (tell_has (.inr q))
      · exact .inr ⟨e, he, q⟩
theorem told_has {ws : List Wal} {ls : List Lnk} {k e : Edge} (h : e ∈ limsOf ws ls) (q : likeE k e = true) : (toldOf ws ls).find? (likeE k) ≠ none := by
  have z : hasE (toldOf ws ls) k = true := fold_has _ [] (.inr ⟨e, h, q⟩)
  rw [hasE_find] at z
  intro w
  rw [w] at z
  cases z
theorem ground_mem : ∀ (ts : List Int) (k : Int) {e : Edge}, e ∈ groundN k ts → ∃ (i : Nat) (t : Int), ts[i]? = some t ∧ (e = (-1, k + i, t) ∨ e = (k + i, -1, 0))
  | [], _, _, h => by cases h
  | t :: ts, k, e, h => by
    rcases List.mem_append.mp h with h | h
    · refine ⟨0, t, rfl, ?_⟩
      rw [show k + ((0 : Nat) : Int) = k by omega]
      rcases List.mem_cons.mp h with h | h
      · exact .inl h
      · exact .inr (List.mem_singleton.mp h)
    · obtain ⟨i, u, h1, h2⟩ := ground_mem ts (k + 1) h
      refine ⟨i + 1, u, h1, ?_⟩
      rw [show k + ((i + 1 : Nat) : Int) = k + 1 + i by omega]
      exact h2
theorem ground_in : ∀ (ts : List Int) (k : Int) (i : Nat) {t : Int}, ts[i]? = some t → ((-1 : Int), k + (i : Int), t) ∈ groundN k ts ∧ (k + (i : Int), (-1 : Int), (0 : Int)) ∈ groundN k ts
  | [], _, _, _, h => by cases h
  | x :: ts, k, 0, t, h => by
    cases h
    rw [show k + ((0 : Nat) : Int) = k by omega]
    exact ⟨List.mem_append_left _ List.mem_cons_self, List.mem_append_left _ (List.mem_cons_of_mem _ List.mem_cons_self)⟩
  | x :: ts, k, i + 1, t, h => by
    have z := ground_in ts (k + 1) i (t := t) h
    rw [show k + ((i + 1 : Nat) : Int) = k + 1 + i by omega]
    exact ⟨List.mem_append_right _ z.1, List.mem_append_right _ z.2⟩
theorem span_mem (sl : Int) : ∀ (xs : List Int) (p : Int) {e : Edge}, e ∈ spanN sl p xs → ∃ (i : Nat) (x : Int), xs[i]? = some x ∧ (e = (p + i, p + i + 1, sl * x) ∨ e = (p + i + 1, p + i, sl * x))
  | [], _, _, h => by cases h
  | t :: ts, k, e, h => by
    rcases List.mem_append.mp h with h | h
    · refine ⟨0, t, rfl, ?_⟩
      rw [show k + ((0 : Nat) : Int) = k by omega]
      rcases List.mem_cons.mp h with h | h
      · exact .inl h
      · exact .inr (List.mem_singleton.mp h)
    · obtain ⟨i, u, h1, h2⟩ := span_mem sl ts (k + 1) h
      refine ⟨i + 1, u, h1, ?_⟩
      rw [show k + ((i + 1 : Nat) : Int) = k + 1 + i by omega]
      exact h2
theorem slope_mem : ∀ (ws : List Wal) (p : Int) {e : Edge}, e ∈ slopeN p ws → ∃ (a : Int) (w : Wal) (x : Int), w ∈ ws ∧ x ∈ w.2.2.2 ∧ p ≤ a ∧ a + 1 < p + places ws ∧ (e = (a, a + 1, w.2.2.1 * x) ∨ e = (a + 1, a, w.2.2.1 * x))
  | [], _, _, h => by cases h
  | w :: ws, p, e, h => by
    have pl : ((places (w :: ws) : Nat) : Int) = (w.2.2.2.length : Int) + 1 + places ws := by
      show ((w.many + places ws : Nat) : Int) = _
      have : w.many = w.2.2.2.length + 1 := rfl
      omega
    have wm : ((w.many : Nat) : Int) = (w.2.2.2.length : Int) + 1 := rfl
    rcases List.mem_append.mp h with h | h
    · obtain ⟨i, x, h1, h2⟩ := span_mem _ _ _ h
      have hi := (List.getElem?_eq_some_iff.mp h1).1
      exact ⟨p + i, w, x, List.mem_cons_self, List.mem_of_getElem? h1, by omega, by omega, h2⟩
    · obtain ⟨a, w', x, h1, h2, h3, h4, h5⟩ := slope_mem ws (p + w.many) h
      exact ⟨a, w', x, List.mem_cons_of_mem _ h1, h2, by omega, by omega, h5⟩
theorem link_mem {ls : List Lnk} {e : Edge} (h : e ∈ ls.flatMap linkE) : ∃ l ∈ ls, e = (l.1, l.2.1, l.2.2.2) ∨ e = (l.2.1, l.1, -l.2.2.1) := by
  obtain ⟨l, hl, h⟩ := List.mem_flatMap.mp h
  refine ⟨l, hl, ?_⟩
  rcases List.mem_cons.mp h with h | h
  · exact .inl h
  · exact .inr (List.mem_singleton.mp h)
theorem links_ok {n : Int} {ls : List Lnk} (h : linksDue n ls = none) {l : Lnk} (hl : l ∈ ls) : (0 ≤ l.1 ∧ l.1 < n) ∧ (0 ≤ l.2.1 ∧ l.2.1 < n) ∧ l.2.1 ≠ l.1 := by
  unfold linksDue at h
  have z := List.findSome?_eq_none_iff.mp h l hl
  unfold linkDue at z
  split at z
  · cases z
  · split at z
    · cases z
    · rename_i h1 h2
      exact ⟨Classical.not_not.mp h1, Classical.not_not.mp fun w => h2 (.inl w), fun w => h2 (.inr w)⟩
theorem lims_cases {ws : List Wal} {ls : List Lnk} {e : Edge} (h : e ∈ limsOf ws ls) :
    (∃ (i : Nat) (t : Int), (topsOf ws)[i]? = some t ∧ (e = (-1, (i : Int), t) ∨ e = ((i : Int), -1, 0))) ∨
    (∃ (a : Int) (w : Wal) (x : Int), w ∈ ws ∧ x ∈ w.2.2.2 ∧ 0 ≤ a ∧ a + 1 < places ws ∧ (e = (a, a + 1, w.2.2.1 * x) ∨ e = (a + 1, a, w.2.2.1 * x))) ∨
    (∃ l ∈ ls, e = (l.1, l.2.1, l.2.2.2) ∨ e = (l.2.1, l.1, -l.2.2.1)) := by
  unfold limsOf at h
  rcases List.mem_append.mp h with h | h
  · rcases List.mem_append.mp h with h | h
    · obtain ⟨i, t, h1, h2⟩ := ground_mem _ _ h
      rw [Int.zero_add] at h2
      exact .inl ⟨i, t, h1, h2⟩
    · obtain ⟨a, w, x, h1, h2, h3, h4, h5⟩ := slope_mem _ _ h
      exact .inr (.inl ⟨a, w, x, h1, h2, h3, by omega, h5⟩)
  · exact .inr (.inr (link_mem h))
theorem tops_places (ws : List Wal) : (topsOf ws).length = places ws := (tops_len ws).trans (spots_places ws)
theorem told_nodes {ws : List Wal} {ls : List Lnk} (h : linksDue (places ws) ls = none) : inNodes (places ws) (toldOf ws ls) := fun e he => by
  have tp := tops_places ws
  rcases lims_cases (told_sub he) with ⟨i, t, h1, h2⟩ | ⟨a, w, x, _, _, h3, h4, h5⟩ | ⟨l, hl, h2⟩
  · have hi := (List.getElem?_eq_some_iff.mp h1).1
    rcases h2 with rfl | rfl
    · exact ⟨⟨by show (-1 : Int) ≤ -1; decide, by show (-1 : Int) < _; omega⟩, by show (-1 : Int) ≤ (i : Int); omega, by show (i : Int) < _; omega⟩
    · exact ⟨⟨by show (-1 : Int) ≤ (i : Int); omega, by show (i : Int) < _; omega⟩, by show (-1 : Int) ≤ -1; decide, by show (-1 : Int) < _; omega⟩
  · rcases h5 with rfl | rfl
    · exact ⟨⟨by show -1 ≤ a; omega, by show a < _; omega⟩, by show -1 ≤ a + 1; omega, by show a + 1 < _; omega⟩
    · exact ⟨⟨by show -1 ≤ a + 1; omega, by show a + 1 < _; omega⟩, by show -1 ≤ a; omega, by show a < _; omega⟩
  · obtain ⟨⟨a1, a2⟩, ⟨b1, b2⟩, _⟩ := links_ok h hl
    rcases h2 with rfl | rfl
    · exact ⟨⟨by show -1 ≤ l.1; omega, a2⟩, by show -1 ≤ l.2.1; omega, b2⟩
    · exact ⟨⟨by show -1 ≤ l.2.1; omega, b2⟩, by show -1 ≤ l.1; omega, a2⟩
theorem told_full (ws : List Wal) (ls : List Lnk) : Full (places ws) (toldOf ws ls) := fun a ha b hb hab hn => by
  have tp := tops_places ws
  obtain ⟨a1, a2⟩ := nodesI_mem ha
  obtain ⟨b1, b2⟩ := nodesI_mem hb
  have has : ∀ c : Int, 0 ≤ c → c < places ws → ((-1 : Int), c, (topsOf ws).getD c.toNat 0) ∈ limsOf ws ls ∧ (c, (-1 : Int), (0 : Int)) ∈ limsOf ws ls := fun c c0 c1 => by
    have hc : c.toNat < (topsOf ws).length := by omega
    have z := ground_in (topsOf ws) 0 c.toNat (List.getElem?_eq_getElem hc)
    rw [show (0 : Int) + (c.toNat : Int) = c by omega] at z
    unfold limsOf
    rw [List.getD_eq_getElem?_getD, List.getElem?_eq_getElem hc]
    exact ⟨List.mem_append_left _ (List.mem_append_left _ z.1), List.mem_append_left _ (List.mem_append_left _ z.2)⟩
  by_cases c : 0 ≤ b
  · exact told_has (has b c b2).1 (like_iff.mpr ⟨rfl, rfl⟩)
  · have eb : b = -1 := by omega
    subst eb
    exact absurd hn (told_has (has a (by omega) a2).2 (like_iff.mpr ⟨rfl, rfl⟩))
/-- a shape keeps every limit -/
def ShapeOf (pi : Int → Int) (ws : List Wal) (ls : List Lnk) : Prop := ∀ e ∈ limsOf ws ls, pi e.2.1 - pi e.1 ≤ e.2.2
end Law


/-! What is told is the least of the limits. -/
namespace Law
theorem like_tr {a b c : Edge} (h : likeE a b = true) (h' : likeE b c = true) : likeE a c = true := by
  have x := like_iff.mp h
  have y := like_iff.mp h'
  exact like_iff.mpr ⟨y.1.trans x.1, y.2.trans x.2⟩
theorem like_sy {a b : Edge} (h : likeE a b = true) : likeE b a = true := by
  have x := like_iff.mp h
  exact like_iff.mpr ⟨x.1.symm, x.2.symm⟩
theorem like_rf (a : Edge) : likeE a a = true := like_iff.mpr ⟨rfl, rfl⟩
/-- one limit for each pair -/
def UniqE (es : List Edge) : Prop := ∀ x ∈ es, ∀ y ∈ es, likeE x y = true → x = y
/-- one that is no greater stands there -/
def LessE (es : List Edge) (k : Edge) : Prop := ∃ x ∈ es, likeE k x = true ∧ x.2.2 ≤ k.2.2
theorem putE_uniq {es : List Edge} {e : Edge} (h : UniqE es) : UniqE (putE es e) := fun x hx y hy q => by
  unfold putE at hx hy
  split at hx
  · rename_i c
    rw [if_pos c] at hy
    obtain ⟨x0, hx0, rfl⟩ := List.mem_map.mp hx
    obtain ⟨y0, hy0, rfl⟩ := List.mem_map.mp hy
    by_cases cx : likeE e x0 = true
    · rw [if_pos cx] at q ⊢
      by_cases cy : likeE e y0 = true
      · rw [if_pos cy]
      · rw [if_neg cy] at q
        exact absurd q cy
    · rw [if_neg cx] at q ⊢
      by_cases cy : likeE e y0 = true
      · rw [if_pos cy] at q
        exact absurd (like_sy q) cx
      · rw [if_neg cy] at q ⊢
        exact h x0 hx0 y0 hy0 q
  · rename_i c
    rw [if_neg c] at hy
    have no : ∀ z ∈ es, ¬ likeE e z = true := fun z hz w => c (List.any_eq_true.mpr ⟨z, hz, w⟩)
    rcases List.mem_append.mp hx with hx1 | hx1
    · rcases List.mem_append.mp hy with hy | hy
      · exact h x hx1 y hy q
      · rw [List.mem_singleton] at hy
        subst hy
        exact absurd (like_sy q) (no x hx1)
    · rw [List.mem_singleton] at hx1
      subst hx1
      rcases List.mem_append.mp hy with hy | hy
      · exact absurd q (no y hy)
      · rw [List.mem_singleton] at hy
        exact hy.symm
theorem tell_uniq {es : List Edge} {e : Edge} (h : UniqE es) : UniqE (tell es e) := by
  unfold tell
  split
  · exact putE_uniq h
  · split
    · exact putE_uniq h
    · exact h
theorem putE_self (es : List Edge) (e : Edge) : e ∈ putE es e := by
  unfold putE
  split
  · rename_i c
    obtain ⟨x, hx, q⟩ := List.any_eq_true.mp c
    exact List.mem_map.mpr ⟨x, hx, if_pos q⟩
  · exact List.mem_append_right _ List.mem_cons_self
theorem tell_less {es : List Edge} {e k : Edge} (hu : UniqE es) (h : LessE es k ∨ k = e) : LessE (tell es e) k := by
  unfold tell
  split
  · rename_i hn
    rcases h with ⟨x, hx, h1, h2⟩ | rfl
    · refine ⟨x, ?_, h1, h2⟩
      unfold putE
      have : ¬ es.any (likeE e) = true := fun z => by
        have := hasE_find es e
        unfold hasE at this
        rw [z, hn] at this
        cases this
      rw [if_neg this]
      exact List.mem_append_left _ hx
    · exact ⟨_, putE_self _ _, like_rf _, Int.le_refl _⟩
  · rename_i x hx
    have hxm := List.mem_of_find?_eq_some hx
    have hxl := List.find?_some hx
    split
    · rename_i c
      rcases h with ⟨y, hy, h1, h2⟩ | rfl
      · by_cases ce : likeE e y = true
        · have : x = y := hu x hxm y hy (like_tr (like_sy hxl) ce)
          subst this
          exact ⟨e, putE_self _ _, like_tr h1 (like_sy ce), by omega⟩
        · refine ⟨y, ?_, h1, h2⟩
          unfold putE
          rw [if_pos (List.any_eq_true.mpr ⟨x, hxm, hxl⟩)]
          exact List.mem_map.mpr ⟨y, hy, if_neg ce⟩
      · exact ⟨_, putE_self _ _, like_rf _, Int.le_refl _⟩
    · rename_i c
      rcases h with h | rfl
      · exact h
      · exact ⟨x, hxm, hxl, by omega⟩
theorem fold_less : ∀ (fs es : List Edge) {k : Edge}, UniqE es → (LessE es k ∨ k ∈ fs) → LessE (fs.foldl tell es) k
  | [], _, _, _, h => h.elim id fun z => by cases z
  | f :: fs, es, k, hu, h => by
    refine fold_less fs (tell es f) (tell_uniq hu) ?_
    rcases h with h | h
    · exact .inl (tell_less hu (.inl h))
    · rcases List.mem_cons.mp h with rfl | h
      · exact .inl (tell_less hu (.inr rfl))
      · exact .inr h
theorem told_less {ws : List Wal} {ls : List Lnk} {e : Edge} (h : e ∈ limsOf ws ls) : LessE (toldOf ws ls) e := fold_less _ [] (fun x hx => by cases hx) (.inr h)
/-- a shape of what is told is a shape of all limits -/
theorem told_shape {pi : Int → Int} {ws : List Wal} {ls : List Lnk} (h : ∀ e ∈ toldOf ws ls, pi e.2.1 - pi e.1 ≤ e.2.2) : ShapeOf pi ws ls := fun e he => by
  obtain ⟨x, hx, h1, h2⟩ := told_less he
  have z := h x hx
  have y := like_iff.mp h1
  rw [y.1, y.2] at z
  omega
end Law

namespace Sup
open PySem PySem.Spec PyProof.Rows L2
/-! an own error with a list in its field, ready to be raised and caught -/
structure ErrOkL (P : Program) (w : World) (K : PySem.W.Frag) (mg : Str → Option Value) (base : Heap) (nm : Str) (C : Addr) (fl : Str) : Prop where
  oex : OexC K C
  xf : XfC K C
  g : mg nm = some (.ref C)
  no : PySem.W.findIn K (.ref C) fl = some none
  te : PySem.W.exmOne K (.ref C) (.ref C) = some true
  run : ∃ (f : Addr) (fd : FuncData), PySem.W.findIn K (.ref C) "__init__" = some (some (.ref f)) ∧ PySem.W.typeIn K (.ref f) = some (.type "function") ∧
    FnOk P w K mg base CX0 2 f fd ["self", fl] (spErrL C fl) ∧ Binds K fd ["self", fl] []
section
variable {X : Cx} {nm : Str} {C : Addr} {fl : Str} {e : Expr} {ta : TA} {p pos pos2 : Pos} {W : WX}
def tErrL (C : Addr) (fl : Str) (ta : TA) (W : WX) : TS := fun _ σ H => tMkO C (spErrL C fl) [] ta σ H fun cls d H' => W cls d σ H'
theorem ps_errL (R : ErrOkL X.prog X.w X.K X.mg X.base nm C fl) (hc : X.calm = true) (tk : Takes X W) (hr : Room 3 X.A) (ha : PA X [e] ta) (hg : Gl X nm)
    (hdb : (nm == ("__debug__" : Str)) = false := by decide) (he : starEach [e] X.env = (false, eval e X.env) :: starEach [] X.env := by rfl) (hpl : (backTo pos (starEach [] X.env)).any (·.1) = false := by rfl) :
    PS X (.Raise (some (.Call (.Name nm p) [e] [] pos)) none pos2) (tErrL C fl ta W) := by
  obtain ⟨f, fd, h1, h2, h3, h4⟩ := R.run
  exact ps_raise hc tk (pmk_oex R.oex h1 h2 h3 hr h4 .nil pass0 hg R.g ha hdb he hpl)
theorem err_wayL {H1 : Hp} {l : Addr} {xs : List V} {Q : XK} (hl : H1 l = some (.lst xs)) (h60 : xs.length ≤ 60) (hs : Shown H1 xs)
    (h : ∀ c d, H1 c = none → (upd H1 c (.lst xs)) d = none → Q (.ref C) (some d) (upd (upd H1 c (.lst xs)) d (.xd [(fl, .ref c)]))) :
    [V.ref l].length ≤ 1000 ∧ ∀ a, H1 a = none → spErrL C fl (.ref a :: ([V.ref l] ++ [])) (upd H1 a (exo a C none))
      (fun r H2 => r = .non ∧ ∃ (d : Addr) (fs : List (Str × V)), H2 a = some (exo a C (some d)) ∧ H2 d = some (exd d fs) ∧ H1 d = none ∧ Q (.ref C) (some d) (upd (del H2 a) d (.xd fs))) (fun _ _ _ => False) := by
  refine ⟨by show 1 ≤ 1000; omega, fun a hn => ⟨a, l, xs, rfl, upd_same, by rw [upd_ne (ne_of_none hl hn)]; exact hl, h60, fun v hv => ?_, fun c dx hc hdx n1 n2 n3 => ⟨rfl, dx, _, upd_same, by rw [upd_ne n1, upd_same], ?_, ?_⟩⟩⟩
  · rcases hs v hv with z | ⟨t, ns, e, ht, r⟩
    · exact .inl z
    · exact .inr ⟨t, ns, e, by rw [upd_ne (ne_of_none ht hn)]; exact ht, r⟩
  · rw [upd_ne n1] at hdx
    exact hdx
  · have hc1 : H1 c = none := by
      rw [upd_ne n2] at hc
      exact hc
    have hd1 : H1 dx = none := by
      rw [upd_ne n1] at hdx
      exact hdx
    have e : upd (del (upd (upd (upd (upd H1 a (exo a C none)) c (.lst xs)) dx (exd dx [(fl, .ref c)])) a (exo a C (some dx))) a) dx (.xd [(fl, .ref c)]) = upd (upd H1 c (.lst xs)) dx (.xd [(fl, .ref c)]) := by
      funext b
      by_cases hb : b = dx
      · rw [hb, upd_same, upd_same]
      · rw [upd_ne hb, upd_ne hb]
        by_cases hba : b = a
        · rw [hba, del_same, upd_ne (Ne.symm n2), hn]
        · rw [del_ne hba, upd_ne hba, upd_ne hb]
          by_cases hbc : b = c
          · rw [hbc, upd_same, upd_same]
          · rw [upd_ne hbc, upd_ne hbc, upd_ne hba]
    rw [e]
    exact h c dx hc1 (by rw [upd_ne n3]; exact hd1)
end
end Sup

/-! (x, ..) * 0 and * 1. -/
namespace TupM
open PySem PySem.Spec PyProof.Rows L2
theorem tuple_mul1 (l : Addr) (items : Array Value) (n : Nat) (dd : Option Addr) (sl : Array (Option Value)) (u : Tok) :
    Meets (Builtin.«tuple.__mul__» ⟨[.ref l, .int 1 u], []⟩) (fun _ R s => s.heap.get? l = some { cls := .type "tuple", dict := dd, data := .seq items n, slots := sl } ∧ R (.ok (.ret (Value.ref l))) s) :=
  .of_wp fun prog w A R s h => by
    obtain ⟨hp, g, d, tk, os⟩ := s
    obtain ⟨hl, h⟩ := h
    have f1 := AutoSeq1.idx_int
    wp_walk using wpAny_loadPart' hl
    exact ⟨_, rfl, h⟩
theorem tuple_mul0 (l : Addr) (items : Array Value) (n : Nat) (dd : Option Addr) (sl : Array (Option Value)) (u : Tok) (c1 : items.isEmpty = false) :
    Meets (Builtin.«tuple.__mul__» ⟨[.ref l, .int 0 u], []⟩) (fun _ R s => s.heap.get? l = some { cls := .type "tuple", dict := dd, data := .seq items n, slots := sl } ∧
      R (.ok (.ret (Value.ref s.heap.objs.size))) { s with heap := s.heap.push { cls := Value.type "tuple", data := Data.seq #[] }, toks := s.toks }) :=
  .of_wp fun prog w A R s h => by
    obtain ⟨hp, g, d, tk, os⟩ := s
    obtain ⟨hl, h⟩ := h
    have f1 := AutoSeq1.idx_int
    wp_walk using wpAny_loadPart' hl
    exact ⟨_, rfl, h⟩
def rRep1 (K : PySem.W.Frag) : R2 := fun x y H Q => ∃ l xs, x = .ref l ∧ y = .int 1 ∧ SqT K H l xs ∧ Q (.ref l) H
def rRep0 (K : PySem.W.Frag) : R2 := fun x y H Q => ∃ l xs, x = .ref l ∧ y = .int 0 ∧ SqT K H l xs ∧ xs ≠ [] ∧ ∀ p, H p = none → Q (.ref p) (upd H p (.tup []))
section
variable {X : Cx}
theorem op_rep1 : OpR X (binaryOp .Mult) (rRep1 X.K) := by
  intro pins s σ H x y v u Q I rx ry h
  obtain ⟨l, xs, rfl, rfl, hT, q⟩ := h
  cases rx
  obtain ⟨t, rfl⟩ := ry
  obtain ⟨its, r, ⟨⟨cls, dd, data, sl⟩, ho, hc, n, hd⟩, hs⟩ := I.tuple hT
  simp only at hc hd
  subst hc hd
  exact wpAny_binaryOp_repeat_ref (T := "tuple") (U := "int") (by decide) ⟨_, ho, rfl⟩ (fun s' => typeIs_int s' 1 t) noFill_tuple_mul F.fills_int_mul F.slot_int_rmul repeat_tuple F.slot_int_index.lookup
    (call_meets F.slot_int_rmul (typeIs_int s 1 t) F.entry_int_rmul (F.args_int_rmul_2 _ _) (int_rmul_tuple 1 t l its.toArray n dd sl)
      ⟨ho, rfl, ⟨_, ho, rfl⟩, call_meets F.slot_tuple_mul ⟨_, ho, rfl⟩ F.entry_tuple_mul (F.args_tuple_mul_2 _ _) (tuple_mul1 l its.toArray n dd sl t) ⟨ho, ⟨.ref l, H, I, rfl, q⟩⟩⟩)
theorem op_rep0 : OpR X (binaryOp .Mult) (rRep0 X.K) := by
  intro pins s σ H x y v u Q I rx ry h
  obtain ⟨l, xs, rfl, rfl, hT, hne, q⟩ := h
  cases rx
  obtain ⟨t, rfl⟩ := ry
  obtain ⟨its, r, ⟨⟨cls, dd, data, sl⟩, ho, hc, n, hd⟩, hs⟩ := I.tuple hT
  simp only at hc hd
  subst hc hd
  have hi : its.toArray.isEmpty = false := by
    cases its with
    | nil => cases r; exact absurd rfl hne
    | cons a b => rfl
  refine wpAny_binaryOp_repeat_ref (T := "tuple") (U := "int") (by decide) ⟨_, ho, rfl⟩ (fun s' => typeIs_int s' 0 t) noFill_tuple_mul F.fills_int_mul F.slot_int_rmul repeat_tuple F.slot_int_index.lookup
    (call_meets F.slot_int_rmul (typeIs_int s 0 t) F.entry_int_rmul (F.args_int_rmul_2 _ _) (int_rmul_tuple 0 t l its.toArray n dd sl)
      ⟨ho, rfl, ⟨_, ho, rfl⟩, call_meets F.slot_tuple_mul ⟨_, ho, rfl⟩ F.entry_tuple_mul (F.args_tuple_mul_2 _ _) (tuple_mul0 l its.toArray n dd sl t hi) ⟨ho, ?_⟩⟩)
  refine ⟨.ref s.heap.objs.size, _, I.laid (t' := s.toks) (o := .tup []) (fun b ob q => Heap.get?_push_of_some _ q) (Nat.le_refl _) ?_, rfl, q _ (I.hok.fresh (Nat.le_refl _))⟩
  exact ⟨by decide, [], .nil, IsTup.new _ _⟩
theorem op_repA : OpR X (binaryOp .Mult) (fun x y H Q => rRepT X.K x y H Q ∨ rRep1 X.K x y H Q ∨ rRep0 X.K x y H Q) := op_repT.or (op_rep1.or op_rep0)
/-- (1,) * n: a tuple of n ones -/
def rOnes (K : PySem.W.Frag) : R2 := fun x y H Q => ∃ l n, x = .ref l ∧ y = .int (n : Nat) ∧ n ≤ 1000 ∧ SqT K H l [.int 1] ∧ ∀ p H', SqT K H' p (List.replicate n (V.int 1)) → (∀ b o, H b = some o → H' b = some o) → Q (.ref p) H'
theorem op_ones : OpR X (binaryOp .Mult) (rOnes X.K) := by
  intro pins s σ H x y v u Q I rx ry h
  obtain ⟨l, n, rfl, rfl, hn, hT, q⟩ := h
  refine op_repA pins s σ H _ _ v u Q I rx ry ?_
  match n, hn, q with
  | 0, _, q => exact .inr (.inr ⟨l, _, rfl, rfl, hT, by decide, fun p hp => q p _ (SqT.of upd_same) fun b o e => by rw [upd_ne (ne_of_none e hp)]; exact e⟩)
  | 1, _, q => exact .inr (.inl ⟨l, _, rfl, rfl, hT, q l H hT fun _ _ e => e⟩)
  | n + 2, hn, q =>
    refine .inl ⟨l, ((n + 2 : Nat) : Int), _, rfl, rfl, hT, by decide, by omega, by omega, by decide, fun p hp => q p _ (SqT.of ?_) fun b o e => by rw [upd_ne (ne_of_none e hp)]; exact e⟩
    rw [upd_same, Int.toNat_natCast]
    congr 2
    induction n + 2 with
    | zero => rfl
    | succ m ih => rw [List.replicate_succ, List.flatten_cons, ih]; rfl
end
end TupM

/-! Site: what is made of walls and links. -/
namespace Law
open PySem PySem.Spec PyProof.Rows L2 Sup
abbrev sSini : Stmt := inClass (top 17) 0
theorem pe_tupleOfK (K : PySem.W.Frag) {X : Cx} {a : Expr} {ta : TE} {p pos : Pos} (h : X.K = K) (hg : Gl X "tuple") (hm : X.mg "tuple" = none) (ha : PE X a ta) (na : starEach [a] X.env = (false, eval a X.env) :: starEach [] X.env := by rfl) :
    PE X (.Call (.Name "tuple" p) [a] [] pos) (tThen ta (kTup K)) := h ▸ pe_tupleOf hg hm ha na
def keyS (s : Str × Int) : List Key := [.inr s.1, .inl s.2]
/-- the places of the spots -/
def PlcAt (H : Hp) (p : Addr) (ss : List (Str × Int)) : Prop := ∃ kv : List (List Key × V), H p = some (.dT kv) ∧ kv.length ≤ ss.length ∧ (∀ (m : Nat) (s : Str × Int), ss[m]? = some s → valV kv (keyS s) = some (.int (m : Nat))) ∧ ∀ s, s ∉ ss → valV kv (keyS s) = none
/-- walls or links as they are passed: a list or a tuple of tuples -/
def WalsIn (K : PySem.W.Frag) (H : Hp) (p : Addr) (ws : List Wal) : Prop := ∃ ts : List Addr, ItSeq.Sq K H p (ts.map V.ref) ∧ ts.length = ws.length ∧ ∀ (i : Nat) (t : Addr) (w : Wal), ts[i]? = some t → ws[i]? = some w → WalT K H t w
def LnksIn (K : PySem.W.Frag) (H : Hp) (p : Addr) (ls : List Lnk) : Prop := ∃ ts : List Addr, ItSeq.Sq K H p (ts.map V.ref) ∧ ts.length = ls.length ∧ ∀ (i : Nat) (t : Addr) (l : Lnk), ts[i]? = some t → ls[i]? = some l → LnkT K H t l
def SiteAt (K : PySem.W.Frag) (CS : Addr) (ws : List Wal) (ls : List Lnk) (H : Hp) (r : Addr) : Prop := ∃ (dx : Addr) (fs : List (Str × V)) (pr pl ps pd pt : Addr), H r = some (.ins CS dx fs) ∧
  (fs.lookup ("_rows" : Str) = some (.ref pr) ∧ WalsAt K H pr ws) ∧ (fs.lookup ("_links" : Str) = some (.ref pl) ∧ LnksAt K H pl ls) ∧ (fs.lookup ("_spots" : Str) = some (.ref ps) ∧ RowsAt H ps (spotsOf ws)) ∧ (fs.lookup ("_places" : Str) = some (.ref pd) ∧ PlcAt H pd (spotsOf ws)) ∧
  (fs.lookup ("_tops" : Str) = some (.ref pt) ∧ H pt = some (.lst ((topsOf ws).map V.int))) ∧ fs.lookup ("size" : Str) = some (.int (places ws : Nat)) ∧ (∀ m : Str, m ∉ (["_rows", "_links", "_spots", "_places", "_tops", "size", "_told", "_limits"] : List Str) → fs.lookup m = none) ∧
  ∃ ptd plm : Addr, fs.lookup ("_told" : Str) = some (.ref ptd) ∧ H ptd = some (.dT (kvT (toldOf ws ls))) ∧ fs.lookup ("_limits" : Str) = some (.ref plm) ∧ TabAt H plm (leastSums (places ws) (toldOf ws ls))
/-- what is new since H (and x), and all tuples -/
structure NewIn (x : Addr) (H H' Hs : Hp) : Prop where
  all : ∀ b o, H' b = some o → Hs b = some o
  new : ∀ b o, (H b = none ∨ b = x) → H' b = some o → Hs b = some o
  tup : ∀ b xs, H' b = some (.tup xs) → Hs b = some (.tup xs)
  frz : ∀ b o xs, H' b = some (.frz o (.tup xs)) → Hs b = some (.frz o (.tup xs))
theorem NewIn.sqT {K : PySem.W.Frag} {x : Addr} {H H' Hs : Hp} (n : NewIn x H H' Hs) {a : Addr} {xs : List V} (h : SqT K H' a xs) : SqT K Hs a xs := by
  rcases h with (h | ⟨o, h⟩) | h
  · exact .inl (.inl (n.tup _ _ h))
  · exact .inl (.inr ⟨o, n.frz _ _ _ h⟩)
  · exact .inr h
theorem WalT.newIn {K : PySem.W.Frag} {x : Addr} {H H' Hs : Hp} (n : NewIn x H H' Hs) {t : Addr} {w : Wal} (h : WalT K H' t w) : WalT K Hs t w := by
  obtain ⟨sp, h1, h2⟩ := h
  exact ⟨sp, n.tup _ _ h1, n.sqT h2⟩
theorem WalsAt.newIn {K : PySem.W.Frag} {x : Addr} {H H' Hs : Hp} (n : NewIn x H H' Hs) {p : Addr} {ws : List Wal} (h : WalsAt K H' p ws) (hp : H p = none) : WalsAt K Hs p ws := by
  obtain ⟨ts, h1, h2, h3⟩ := h
  exact ⟨ts, n.new _ _ (.inl hp) h1, h2, fun i t w e1 e2 => (h3 i t w e1 e2).newIn n⟩
theorem LnksAt.newIn {K : PySem.W.Frag} {x : Addr} {H H' Hs : Hp} (n : NewIn x H H' Hs) {p : Addr} {ls : List Lnk} (h : LnksAt K H' p ls) (hp : H p = none) : LnksAt K Hs p ls := by
  obtain ⟨ts, h1, h2, h3⟩ := h
  exact ⟨ts, n.new _ _ (.inl hp) h1, h2, fun i t w e1 e2 => n.sqT (h3 i t w e1 e2)⟩
theorem RowsAt.newIn {x : Addr} {H H' Hs : Hp} (n : NewIn x H H' Hs) {p : Addr} {rows : List Row} (h : RowsAt H' p rows) (hp : H p = none) : RowsAt Hs p rows := by
  obtain ⟨ts, h1, h2, h3⟩ := h
  exact ⟨ts, n.new _ _ (.inl hp) h1, h2, fun i t y L e1 e2 => n.tup _ _ (h3 i t y L e1 e2)⟩
theorem PlcAt.newIn {x : Addr} {H H' Hs : Hp} (n : NewIn x H H' Hs) {p : Addr} {ss : List (Str × Int)} (h : PlcAt H' p ss) (hp : H p = none) : PlcAt Hs p ss := by
  obtain ⟨kv, h1, h2⟩ := h
  exact ⟨kv, n.new _ _ (.inl hp) h1, h2⟩
section
variable {K : PySem.W.Frag} {H H' : Hp} {x CS dx : Addr} {fs : List (Str × V)}
/-- all but an instance stands as it stood -/
theorem sqT_sB {a : Addr} {xs : List V} (h : SqT K H a xs) (hx : H x = some (.ins CS dx fs)) (s : SameB x H H') : SqT K H' a xs := by
  rcases h with (h | ⟨o, h⟩) | h
  · exact .inl (.inl (s _ _ (fun z => by rw [z, hx] at h; cases h) h))
  · exact .inl (.inr ⟨o, s _ _ (fun z => by rw [z, hx] at h; cases h) h⟩)
  · exact .inr h
theorem sqL_sB {a : Addr} {xs : List V} (h : SqL K H a xs) (hx : H x = some (.ins CS dx fs)) (s : SameB x H H') : SqL K H' a xs := by
  rcases h with (h | ⟨o, h⟩) | h
  · exact .inl (.inl (s _ _ (fun z => by rw [z, hx] at h; cases h) h))
  · exact .inl (.inr ⟨o, s _ _ (fun z => by rw [z, hx] at h; cases h) h⟩)
  · exact .inr h
theorem lst_sB {a : Addr} {xs : List V} (h : H a = some (.lst xs)) (hx : H x = some (.ins CS dx fs)) (s : SameB x H H') : H' a = some (.lst xs) := s _ _ (fun z => by rw [z, hx] at h; cases h) h
theorem WalT.sB {t : Addr} {w : Wal} (h : WalT K H t w) (hx : H x = some (.ins CS dx fs)) (s : SameB x H H') : WalT K H' t w := by
  obtain ⟨sp, h1, h2⟩ := h
  exact ⟨sp, s _ _ (fun z => by rw [z, hx] at h1; cases h1) h1, sqT_sB h2 hx s⟩
theorem WalsAt.sB {p : Addr} {ws : List Wal} (h : WalsAt K H p ws) (hx : H x = some (.ins CS dx fs)) (s : SameB x H H') : WalsAt K H' p ws := by
  obtain ⟨ts, h1, h2, h3⟩ := h
  exact ⟨ts, lst_sB h1 hx s, h2, fun i t w e1 e2 => (h3 i t w e1 e2).sB hx s⟩
theorem LnksAt.sB {p : Addr} {ls : List Lnk} (h : LnksAt K H p ls) (hx : H x = some (.ins CS dx fs)) (s : SameB x H H') : LnksAt K H' p ls := by
  obtain ⟨ts, h1, h2, h3⟩ := h
  exact ⟨ts, lst_sB h1 hx s, h2, fun i t w e1 e2 => sqT_sB (h3 i t w e1 e2) hx s⟩
theorem LnksIn.sB {p : Addr} {ls : List Lnk} (h : LnksIn K H p ls) (hx : H x = some (.ins CS dx fs)) (s : SameB x H H') : LnksIn K H' p ls := by
  obtain ⟨ts, h1, h2, h3⟩ := h
  exact ⟨ts, h1.imp (sqL_sB · hx s) (sqT_sB · hx s), h2, fun i t w e1 e2 => sqT_sB (h3 i t w e1 e2) hx s⟩
theorem RowsAt.sB {p : Addr} {rows : List Row} (h : RowsAt H p rows) (hx : H x = some (.ins CS dx fs)) (s : SameB x H H') : RowsAt H' p rows := by
  obtain ⟨ts, h1, h2, h3⟩ := h
  exact ⟨ts, lst_sB h1 hx s, h2, fun i t y L e1 e2 => by have z := h3 i t y L e1 e2; exact s _ _ (fun w => by rw [w, hx] at z; cases z) z⟩
theorem PlcAt.sB {p : Addr} {ss : List (Str × Int)} (h : PlcAt H p ss) (hx : H x = some (.ins CS dx fs)) (s : SameB x H H') : PlcAt H' p ss := by
  obtain ⟨kv, h1, h2⟩ := h
  exact ⟨kv, s _ _ (fun z => by rw [z, hx] at h1; cases h1) h1, h2⟩
end
theorem none_backB {H H' : Hp} {x p CS dx : Addr} {fs : List (Str × V)} (s : SameB x H H') (h : H' p = none) (hx : H' x = some (.ins CS dx fs)) : H p = none := by
  cases e : H p with
  | none => rfl
  | some o =>
    have z := s _ _ (fun z => by rw [z, hx] at h; cases h) e
    rw [h] at z
    cases z
theorem putF_len (f : Str) (v : V) : ∀ fs : List (Str × V), (putF f v fs).length ≤ fs.length + 1
  | [] => Nat.le_refl _
  | (g, u) :: r => by
    have ih := putF_len f v r
    unfold putF
    split
    · show r.length + 1 ≤ r.length + 1 + 1
      omega
    · show (putF f v r).length + 1 ≤ r.length + 1 + 1
      omega
theorem WalsAt.push {K : PySem.W.Frag} {H : Hp} {p q sp : Addr} {ws : List Wal} {w : Wal} (h : WalsAt K H p ws) (hq : H q = none) (hs : SqT K H sp (w.2.2.2.map V.int)) (hl : ws.length ≤ 900) :
    ∃ acc, (upd H q (.tup [.str w.1, .int w.2.1, .int w.2.2.1, .ref sp])) p = some (.lst acc) ∧ acc.length < sizeLine ∧ WalsAt K (upd (upd H q (.tup [.str w.1, .int w.2.1, .int w.2.2.1, .ref sp])) p (.lst (acc ++ [.ref q]))) p (ws ++ [w]) := by
  obtain ⟨ts, h1, h2, h3⟩ := h
  have npq : p ≠ q := ne_of_none h1 hq
  have s1 := same_new (o := .tup [.str w.1, .int w.2.1, .int w.2.2.1, .ref sp]) hq
  have tupP : ∀ {H2 : Hp} {ys : List V} {a : Addr} {xs : List V}, H2 p = some (.lst ys) → ∀ zs, SqT K H2 a xs → SqT K (upd H2 p (.lst zs)) a xs := fun {H2 ys a xs} e zs h => by
    rcases h with (h | ⟨o, h⟩) | h
    · exact .inl (.inl (by rw [upd_ne (fun z => by rw [z, e] at h; cases h)]; exact h))
    · exact .inl (.inr ⟨o, by rw [upd_ne (fun z => by rw [z, e] at h; cases h)]; exact h⟩)
    · exact .inr h
  refine ⟨_, s1 _ _ h1, small1000 (by rw [List.length_map]; omega), ts ++ [q], by rw [upd_same, List.map_append]; rfl, by simp [h2], fun i t w' e1 e2 => ?_⟩
  by_cases hi : i < ts.length
  · rw [List.getElem?_append_left hi] at e1
    rw [List.getElem?_append_left (by omega)] at e2
    obtain ⟨sp', z1, z2⟩ := (h3 i t w' e1 e2).same s1
    have e0 := s1 _ _ h1
    exact ⟨sp', by rw [upd_ne (fun z => by rw [z, e0] at z1; cases z1)]; exact z1, tupP e0 _ z2⟩
  · rw [List.getElem?_append_right (by omega)] at e1 e2
    have ei : i - ts.length = 0 := by
      have := (List.getElem?_eq_some_iff.mp e1).1
      simp at this
      omega
    have ej : i - ws.length = 0 := by omega
    rw [ei] at e1
    rw [ej] at e2
    cases e1
    cases e2
    exact ⟨sp, by rw [upd_ne (Ne.symm npq), upd_same], tupP (s1 _ _ h1) _ (sqT_same hs s1)⟩
theorem LnksAt.push {K : PySem.W.Frag} {H : Hp} {p q : Addr} {ls : List Lnk} {l : Lnk} (h : LnksAt K H p ls) (hs : LnkT K H q l) (hl : ls.length ≤ 900) :
    ∃ acc, H p = some (.lst acc) ∧ acc.length < sizeLine ∧ LnksAt K (upd H p (.lst (acc ++ [.ref q]))) p (ls ++ [l]) := by
  obtain ⟨ts, h1, h2, h3⟩ := h
  have tupP : ∀ {a : Addr} {xs : List V}, ∀ zs, SqT K H a xs → SqT K (upd H p (.lst zs)) a xs := fun {a xs} zs h => by
    rcases h with (h | ⟨o, h⟩) | h
    · exact .inl (.inl (by rw [upd_ne (fun z => by rw [z, h1] at h; cases h)]; exact h))
    · exact .inl (.inr ⟨o, by rw [upd_ne (fun z => by rw [z, h1] at h; cases h)]; exact h⟩)
    · exact .inr h
  refine ⟨_, h1, small1000 (by rw [List.length_map]; omega), ts ++ [q], by rw [upd_same, List.map_append]; rfl, by simp [h2], fun i t w' e1 e2 => ?_⟩
  by_cases hi : i < ts.length
  · rw [List.getElem?_append_left hi] at e1
    rw [List.getElem?_append_left (by omega)] at e2
    exact tupP _ (h3 i t w' e1 e2)
  · rw [List.getElem?_append_right (by omega)] at e1 e2
    have ei : i - ts.length = 0 := by
      have := (List.getElem?_eq_some_iff.mp e1).1
      simp at this
      omega
    have ej : i - ls.length = 0 := by omega
    rw [ei] at e1
    rw [ej] at e2
    cases e1
    cases e2
    exact tupP _ hs
/-! the names of walls are apart -/
theorem rows_names : ∀ (ws : List Wal) (acc : List Str), rowsDue acc ws = none → (∀ w ∈ ws, w.1 ∉ acc) ∧ (ws.map (·.1)).Nodup
  | [], _, _ => ⟨fun _ h => (by cases h), List.nodup_nil⟩
  | w :: ws, acc, h => by
    unfold rowsDue at h
    split at h
    · cases h
    · split at h
      · cases h
      · rename_i _ c
        cases e : numDue w.2.1 w.2.2.1 w.2.2.2 with
        | some x => rw [e] at h; cases h
        | none =>
          rw [e] at h
          obtain ⟨a, b⟩ := rows_names ws (acc ++ [w.1]) h
          refine ⟨fun v hv => ?_, List.nodup_cons.mpr ⟨fun z => ?_, b⟩⟩
          · rcases List.mem_cons.mp hv with rfl | hv
            · intro z
              exact c (List.contains_iff_mem.mpr z)
            · exact fun z => a v hv (List.mem_append_left _ z)
          · obtain ⟨v, hv, e⟩ := List.mem_map.mp z
            exact a v hv (by rw [e]; exact List.mem_append_right _ List.mem_cons_self)
theorem spots_mem {ws : List Wal} {s : Str × Int} : s ∈ spotsOf ws ↔ ∃ w ∈ ws, s.1 = w.1 ∧ 0 ≤ s.2 ∧ s.2 < w.many := by
  unfold spotsOf
  rw [List.mem_flatMap]
  constructor
  · rintro ⟨w, hw, h⟩
    unfold spotsW at h
    obtain ⟨i, hi, rfl⟩ := List.mem_map.mp h
    have := List.mem_range.mp hi
    exact ⟨w, hw, rfl, by show (0 : Int) ≤ (i : Int); omega, by show (i : Int) < _; omega⟩
  · rintro ⟨w, hw, h1, h2, h3⟩
    refine ⟨w, hw, ?_⟩
    unfold spotsW
    exact List.mem_map.mpr ⟨s.2.toNat, List.mem_range.mpr (by omega), Prod.ext h1.symm (by show ((s.2.toNat : Nat) : Int) = s.2; omega)⟩
theorem spots_nodup : ∀ ws : List Wal, (ws.map (·.1)).Nodup → (spotsOf ws).Nodup
  | [], _ => List.nodup_nil
  | w :: ws, h => by
    obtain ⟨h1, h2⟩ := List.nodup_cons.mp h
    have ih := spots_nodup ws h2
    show (spotsW w ++ spotsOf ws).Nodup
    refine List.nodup_append.mpr ⟨?_, ih, fun a ha b hb e => ?_⟩
    · unfold spotsW
      refine List.Pairwise.map _ (fun a b hab z => hab ?_) List.nodup_range
      have z2 : (a : Int) = (b : Int) := congrArg Prod.snd z
      omega
    · subst e
      unfold spotsW at ha
      obtain ⟨i, _, rfl⟩ := List.mem_map.mp ha
      obtain ⟨v, hv, e, _⟩ := spots_mem.mp hb
      exact h1 (List.mem_map.mpr ⟨v, hv, e.symm⟩)
theorem PlcAt.put {H : Hp} {D : Addr} {ss : List (Str × Int)} {s : Str × Int} {i : Nat} (h : PlcAt H D (ss.take i)) (hs : ss[i]? = some s) (hn : ss.Nodup) (hl : ss.length ≤ 900) :
    ∃ kv, H D = some (.dT kv) ∧ kv.length < sizeLine ∧ PlcAt (upd H D (.dT (putK kv (keyS s) (.int (i : Nat))))) D (ss.take (i + 1)) := by
  obtain ⟨kv, h1, h2, h3, h4⟩ := h
  have hi := (List.getElem?_eq_some_iff.mp hs).1
  rw [List.length_take] at h2
  have et : ss.take (i + 1) = ss.take i ++ [s] := by rw [List.take_succ, hs]; rfl
  have inj : ∀ a b : Str × Int, keyS a = keyS b → a = b := fun a b e => by
    unfold keyS at e
    injection e with e1 e2
    injection e2 with e2 _
    exact Prod.ext (Sum.inr.inj e1) (Sum.inl.inj e2)
  have nots : s ∉ ss.take i := fun z => by
    obtain ⟨j, hj, e⟩ := List.mem_iff_getElem.mp z
    rw [List.length_take] at hj
    rw [List.getElem_take] at e
    have hne := List.pairwise_iff_getElem.mp hn j i (by omega) hi (by omega)
    rw [List.getElem?_eq_getElem hi] at hs
    exact hne (e.trans (Option.some.inj hs).symm)
  refine ⟨kv, h1, small1000 (by omega), _, upd_same, ?_, fun m u hu => ?_, fun u hu => ?_⟩
  · have := putLen kv (keyS s) (.int (i : Nat))
    rw [et, List.length_append, List.length_take]
    show _ ≤ min i ss.length + 1
    omega
  · rw [valV_put]
    rw [et] at hu
    by_cases c : m < i
    · rw [List.getElem?_append_left (by rw [List.length_take]; omega)] at hu
      have : u ≠ s := fun z => nots (z ▸ List.mem_of_getElem? hu)
      rw [if_neg fun z => this (inj _ _ z)]
      exact h3 m u hu
    · rw [List.getElem?_append_right (by rw [List.length_take]; omega)] at hu
      have hm := (List.getElem?_eq_some_iff.mp hu).1
      rw [List.length_take] at hm hu
      simp at hm
      obtain rfl : m = i := by omega
      have e0 : m - min m ss.length = 0 := by omega
      rw [e0] at hu
      cases hu
      rw [if_pos rfl]
  · rw [valV_put]
    rw [et] at hu
    have n1 : u ∉ ss.take i := fun z => hu (List.mem_append_left _ z)
    have n2 : u ≠ s := fun z => hu (z ▸ List.mem_append_right _ List.mem_cons_self)
    rw [if_neg fun z => n2 (inj _ _ z)]
    exact h4 u n1
structure SiTxt (K : PySem.W.Frag) (mg : Str → Option Value) (CS fCr fSp fTo fCl fTd fFi fLs : Addr) : Prop where
  cl : Cls K CS
  na : ∀ m ∈ (["_rows", "_links", "_spots", "_places", "_tops", "size", "_told", "_limits"] : List Str), NoAttr K CS m
  most : ∃ t, mg "MOST_PLACES" = some (.int 24 t)
  tuple : mg "tuple" = none
  enumerate : mg "enumerate" = none
  len : mg "len" = none
  cro : mg "_check_rows" = some (.ref fCr)
  spots : mg "_spots_of" = some (.ref fSp)
  tops : mg "_tops_of" = some (.ref fTo)
  cli : mg "_check_links" = some (.ref fCl)
  told : mg "_told_limits" = some (.ref fTd)
  ring : mg "_find_ring" = some (.ref fFi)
  least : mg "_least_sums" = some (.ref fLs)
def spSini2 (K : PySem.W.Frag) (C : Errs) (CS : Addr) : Sp := fun vs H Q E => ∃ (x dx pw pk : Addr) (ws : List Wal) (ls : List Lnk), vs = [.ref x, .ref pw, .ref pk] ∧ H x = some (.ins CS dx []) ∧ WalsIn K H pw ws ∧ LnksIn K H pk ls ∧ ws.length ≤ 100 ∧ ls.length ≤ 60 ∧ places ws ≤ 800 ∧
  (∀ w ∈ ws, WFit w) ∧ (∀ l ∈ ls, LFit l) ∧ (∀ b, rowsDue [] ws = some b → DueX C E (SameB x H) b) ∧
  (rowsDue [] ws = none → (24 < places ws → DueX C E (SameB x H) (.many (places ws : Nat))) ∧ (places ws ≤ 24 → (∀ z, linksDue (places ws : Nat) ls = some z → DueX C E (SameB x H) (.place z)) ∧
    (linksDue (places ws : Nat) ls = none → ((∃ pi : Int → Int, ∀ e ∈ toldOf ws ls, pi e.2.1 - pi e.1 ≤ e.2.2) → ∀ H', SameB x H H' → (∀ Hs, NewIn x H H' Hs → SiteAt K CS ws ls Hs x) → Q .non H') ∧
      ((¬ ∃ pi : Int → Int, ∀ e ∈ toldOf ws ls, pi e.2.1 - pi e.1 ≤ e.2.2) → ∀ (H' : Hp) (c d : Addr), SameB x H H' → H' d = none → E (.ref C.S) (some d) (upd H' d (.xd [("ring", .ref c)]))))))
section
variable {P : Program} {w : World} {K : PySem.W.Frag} {mg : Str → Option Value} {base : Heap} {C : Errs} {CS fCr fSp fTo fCl fTd fFi fLs : Addr}
theorem scSini : FnScope ["self", "walls", "links", "name", "top", "slope", "spans", "link", "place", "spot", "ring"] ["self", "walls", "links"] (defScope sSini) := ⟨rfl, rfl, rfl, by decide +kernel, rfl, by decide +kernel, by decide +kernel⟩
set_option maxHeartbeats 0 in
theorem ok_sini2 {f aD : Addr} {fd fdCr fdSp fdTo fdCl fdTd fdFi fdLs : FuncData} (F : FunD K "__init__" "Site.__init__" (defArgs sSini) (defBody sSini) (defScope sSini) [.ref aD] [] f fd) (RM : ErrOk P w K mg base "TooMany" C.M "count" okInt) (RS : ErrOkL P w K mg base "NoSite" C.S "ring")
    (GCr : FnOk P w K mg base (L2.CX P w) 6 fCr fdCr ["rows"] (spCro K C)) (FCr : Fun K "_check_rows" "_check_rows" sCro fCr fdCr) (bCr : Binds K fdCr ["rows"] [])
    (GSp : FnOk P w K mg base CX0 1 fSp fdSp ["rows"] (spSpots K)) (FSp : Fun K "_spots_of" "_spots_of" sSpots fSp fdSp) (bSp : Binds K fdSp ["rows"] [])
    (GTo : FnOk P w K mg base CX0 1 fTo fdTo ["rows"] (spTops K)) (FTo : Fun K "_tops_of" "_tops_of" sTops fTo fdTo) (bTo : Binds K fdTo ["rows"] [])
    (GCl : FnOk P w K mg base (L2.CX P w) 4 fCl fdCl ["links", "size"] (spCli K C)) (FCl : Fun K "_check_links" "_check_links" sCli fCl fdCl) (bCl : Binds K fdCl ["links", "size"] [])
    (GTd : FnOk P w K mg base CX0 2 fTd fdTd ["rows", "tops", "links"] (spTold K)) (FTd : Fun K "_told_limits" "_told_limits" sTold fTd fdTd) (bTd : Binds K fdTd ["rows", "tops", "links"] [])
    (GFi : FnOk P w K mg base CX0 2 fFi fdFi ["size", "told"] spFnd2) (FFi : Fun K "_find_ring" "_find_ring" sFnd fFi fdFi) (bFi : Binds K fdFi ["size", "told"] [])
    (GLs : FnOk P w K mg base CX0 2 fLs fdLs ["size", "told"] spLst) (FLs : Fun K "_least_sums" "_least_sums" sLst fLs fdLs) (bLs : Binds K fdLs ["size", "told"] [])
    (T : SiTxt K mg CS fCr fSp fTo fCl fTd fFi fLs) : FnOk P w K mg base (L2.CX P w) 7 f fd ["self", "walls", "links"] (spSini2 K C CS) := by
  obtain ⟨t3, T3⟩ := T.most
  refine F.ok scSini (fun vs H Q E h => ?_) (fun cdv A outer s H vs Q E hr h => ?_)
  · obtain ⟨x, dx, pw, pk, ws, ls, rfl, _⟩ := h
    rfl
  · obtain ⟨x, dx, pw, pk, ws, ls, rfl, hx, hW, hL, l1, l2, l3, fW, fL, h1, h2⟩ := h
    have hr6 : Room 6 _ := hr
    have hr4 : Room 4 _ := hr.mono (by decide)
    have hr3 : Room 3 _ := hr.mono (by decide)
    have hr2 : Room 2 _ := hr.mono (by decide)
    have hr1 : Room 1 _ := hr.mono (by decide)
    refine ⟨_, (pss_cons (ps_fld (pv 0) (pe_lc (own := [("name", 3), ("top", 4), ("slope", 5), ("spans", 6)]) (g := (gTup K 4 (gCons (gName 3) (gCons (gName 4) (gCons (gName 5) (gCons (gName 6) gNil)))))) (tt := tYes) (by rfl) scSini.nd (ItSeq.pi_seq (pv 1)) (blkOk_by (own := [("name", 3), ("top", 4), ("slope", 5), ("spans", 6)]) (N := ["self", "walls", "links", "name", "top", "slope", "spans", "link", "place", "spot", "ring"]) (sc := defScope sSini) (by decide +kernel))
        (fun _ _ _ _ _ => by exact (pg_tup (n := 4) rfl (pgs_cons (pg_name (i := 3) scSini.nd rfl (Or.inl rfl)) (pgs_cons (pg_name (i := 4) scSini.nd rfl (Or.inl rfl)) (pgs_cons (pg_name (i := 5) scSini.nd rfl (Or.inl rfl)) (pgs_cons (pg_name (i := 6) scSini.nd rfl (Or.inl rfl)) pgs_nil)))))) (fun _ _ _ _ _ => pts_nil) (fun _ _ _ _ _ => (pe_tup (pa_cons (pv 3) (pa_cons (pv 4) (pa_cons (pv 5) (pa_cons (pe_tupleOfK K rfl (by rfl) T.tuple (pv 6)) pa_nil))))))) rfl)
      (pss_cons (ps_fld (pv 0) (pe_lc (own := [("link", 7)]) (g := gName 7) (tt := tYes) (by rfl) scSini.nd (ItSeq.pi_seq (pv 2)) (blkOk_by (own := [("link", 7)]) (N := ["self", "walls", "links", "name", "top", "slope", "spans", "link", "place", "spot", "ring"]) (sc := defScope sSini) (by decide +kernel))
        (fun _ _ _ _ _ => pg_name (i := 7) scSini.nd rfl (Or.inl rfl)) (fun _ _ _ _ _ => pts_nil) (fun _ _ _ _ _ => (pe_tupleOfK K rfl (by rfl) T.tuple (pv 7)))) rfl)
      (pss_cons (ps_expr (pe_call (E := E) GCr hr6 rfl T.cro FCr.kp bCr .nil (passes_call (takes_of rfl rfl rfl rfl) fun _ _ _ _ z => z) (pa_cons (pe_fld (pv 0) rfl) pa_nil)))
      (pss_cons (ps_fld (pv 0) (pe_call GSp hr1 rfl T.spots FSp.kp bSp .nil pass0 (pa_cons (pe_fld (pv 0) rfl) pa_nil)) rfl)
      (pss_cons (ps_fld (pv 0) (DcT.pe_dcT (own := [("place", 8), ("spot", 9)]) (g := (gTup K 2 (gCons (gName 8) (gCons (gName 9) gNil)))) (tt := tYes) (tk := tVar 9) (tv := tVar 8) (wi := iEnum K (tCons (tFld K (tVar 0) "_spots") tNil)) ⟨rfl, scSini.nd, (pi_enum (by rfl) T.enumerate (pa_cons (pe_fld (pv 0) rfl) pa_nil)), blkOk_by (own := [("place", 8), ("spot", 9)]) (N := ["self", "walls", "links", "name", "top", "slope", "spans", "link", "place", "spot", "ring"]) (sc := defScope sSini) (by decide +kernel),
        fun _ _ _ _ _ => by exact (pg_tup (n := 2) rfl (pgs_cons (pg_name (i := 8) scSini.nd rfl (Or.inl rfl)) (pgs_cons (pg_name (i := 9) scSini.nd rfl (Or.inl rfl)) pgs_nil))), fun _ _ _ _ _ => pts_nil, fun _ _ _ _ _ => (pv 9), fun _ _ _ _ _ => (pv 8), by intro _; rfl, Nat.lt_of_succ_lt (hu_of hr)⟩) rfl)
      (pss_cons (ps_fld (pv 0) (pe_call GTo hr1 rfl T.tops FTo.kp bTo .nil pass0 (pa_cons (pe_fld (pv 0) rfl) pa_nil)) rfl)
      (pss_cons (ps_fld (pv 0) (pe_callB call_len_seq (by rfl) T.len PySem.boot_len (pa_cons (pe_fld (pv 0) rfl) pa_nil)) rfl)
      (pss_cons (ps_if (pt_cmpR op_gt (pe_fld (pv 0) rfl) (pe_glob (v := .int 24) rfl T3 ⟨_, rfl⟩) (nomark _)) (pss_one (ps_err RM rfl (takes_of rfl rfl rfl rfl) hr3 (pa_cons (pe_fld (pv 0) rfl) pa_nil) rfl)) pss_nil)
      (pss_cons (ps_expr (pe_call (E := E) GCl hr4 rfl T.cli FCl.kp bCl .nil (passes_call (takes_of rfl rfl rfl rfl) fun _ _ _ _ z => z) (pa_cons (pe_fld (pv 0) rfl) (pa_cons (pe_fld (pv 0) rfl) pa_nil))))
      (pss_cons (ps_fld (pv 0) (pe_call GTd hr2 rfl T.told FTd.kp bTd .nil pass0 (pa_cons (pe_fld (pv 0) rfl) (pa_cons (pe_fld (pv 0) rfl) (pa_cons (pe_fld (pv 0) rfl) pa_nil)))) rfl)
      (pss_cons (ps_set (i := 10) scSini.nd rfl (Or.inl rfl) (pe_call GFi hr2 rfl T.ring FFi.kp bFi .nil pass0 (pa_cons (pe_fld (pv 0) rfl) (pa_cons (pe_fld (pv 0) rfl) pa_nil))))
      (pss_cons (ps_if (pt_truth (pv 10) (by intro _; rfl)) (pss_one (ps_errL RS rfl (takes_of rfl rfl rfl rfl) hr3 (pa_cons (pv 10) pa_nil) rfl)) pss_nil)
      (pss_one (ps_fld (pv 0) (pe_call GLs hr2 rfl T.least FLs.kp bLs .nil pass0 (pa_cons (pe_fld (pv 0) rfl) (pa_cons (pe_fld (pv 0) rfl) pa_nil))) rfl)))))))))))))), ?_⟩
    have SB : SameB x H H := fun _ _ _ e => e
    have hf0 : ([] : List (Str × V)).length ≤ 0 := Nat.le_refl _
    have ln0 : ∀ m : Str, m ∉ ([] : List Str) → ([] : List (Str × V)).lookup m = none := fun _ _ => rfl
    obtain ⟨ts, q1, q2, q3⟩ := hW
    refine ⟨_, rfl, pw, _, rfl, q1, fun J wJ pr hpr => ?_⟩
    refine lc_it wJ (fun i H' => WalsAt K H' pr (ws.take i) ∧ Same H H') ⟨⟨[], upd_same, rfl, fun i t e z => by cases z⟩, same_new hpr⟩ (fun _ _ _ h => h.2) ?_ ?_
    · rintro i y H1 H2 hi ⟨B, S1⟩ ⟨rfl, hy⟩
      rw [List.length_map] at hi
      rw [List.getElem?_map, List.getElem?_eq_getElem hi] at hy
      cases hy
      obtain ⟨wl, hw⟩ : ∃ w, ws[i]? = some w := ⟨_, List.getElem?_eq_getElem (by omega)⟩
      obtain ⟨sp, z1, z2⟩ := (q3 i _ wl (List.getElem?_eq_getElem hi) hw).same S1
      refine ⟨_, _, rfl, SqT.of z1, rfl, _, _, rfl, _, _, rfl, _, _, rfl, _, _, rfl, rfl, rfl, _, rfl, _, rfl, _, rfl, _, rfl, .inr ⟨sp, _, rfl, z2, by show 4 ≤ sizeLine; decide, fun q hq => ?_⟩⟩
      obtain ⟨acc, a1, a2, a3⟩ := B.push hq z2 (by rw [List.length_take]; omega)
      refine ⟨acc, a1, a2, ?_, fun b o e => ?_⟩
      · rw [List.take_succ, hw]
        exact a3
      · rw [upd_ne (ne_of_none e hpr), upd_ne (ne_of_none (S1 _ _ e) hq)]
        exact S1 _ _ e
    rintro H1 ⟨B1, S1⟩
    rw [List.length_map, q2, List.take_length] at B1
    have hx1 := S1 _ _ hx
    have SB : SameB x H H1 := SameB.of_same S1
    refine ⟨_, rfl, x, CS, dx, _, rfl, hx1, T.cl, T.na _ (by decide), Nat.lt_of_le_of_lt hf0 (by decide), ?_⟩
    have eG1 : SameB x H1 (upd H1 x (.ins CS dx (putF "_rows" (V.ref pr) []))) := fun b o n e => (upd_ne n).trans e
    have hG1 : upd H1 x (.ins CS dx (putF "_rows" (V.ref pr) [])) x = some (.ins CS dx (putF "_rows" (V.ref pr) [])) := upd_same
    have hf1 : (putF "_rows" (V.ref pr) []).length ≤ 1 := Nat.le_trans (putF_len _ _ _) (Nat.succ_le_succ hf0)
    have lk1_rows : (putF "_rows" (V.ref pr) []).lookup ("_rows" : Str) = some (V.ref pr) := by rw [lookup_putF, if_pos rfl]
    have ln1 : ∀ m : Str, m ∉ (["_rows"] : List Str) → (putF "_rows" (V.ref pr) []).lookup m = none := fun m hm => by rw [lookup_putF, if_neg (fun z => hm (by rw [z]; decide))]; exact ln0 m fun z => hm (show m ∈ (([] : List Str) ++ [("_rows" : Str)]) from List.mem_append_left _ z)
    have SG1 : SameB x H (upd H1 x (.ins CS dx (putF "_rows" (V.ref pr) []))) := SB.trans eG1
    generalize upd H1 x (.ins CS dx (putF "_rows" (V.ref pr) [])) = G1 at eG1 hG1 SG1
    generalize (putF "_rows" (V.ref pr) []) = fs1 at hG1 hf1 ln1 lk1_rows
    have fR := fun H' (s : SameB x G1 H') => B1.sB hx1 (eG1.trans s)
    have fL0 := fun H' (s : SameB x G1 H') => hL.sB hx (SG1.trans s)
    obtain ⟨us, r1, r2, r3⟩ := fL0 G1 (fun _ _ _ e => e)
    refine ⟨_, rfl, pk, _, rfl, r1, fun J wJ pl hpl => ?_⟩
    have hpl0 := none_backB SG1 hpl hG1
    refine lc_it wJ (fun i H' => LnksAt K H' pl (ls.take i) ∧ Same G1 H') ⟨⟨[], upd_same, rfl, fun i t e z => by cases z⟩, same_new hpl⟩ (fun _ _ _ h => h.2) ?_ ?_
    · rintro i y H1 H2 hi ⟨B, S1⟩ ⟨rfl, hy⟩
      rw [List.length_map] at hi
      rw [List.getElem?_map, List.getElem?_eq_getElem hi] at hy
      cases hy
      obtain ⟨l, hl⟩ : ∃ w, ls[i]? = some w := ⟨_, List.getElem?_eq_getElem (by omega)⟩
      have z : LnkT K H2 us[i] l := sqT_same (r3 i _ l (List.getElem?_eq_getElem hi) hl) S1
      obtain ⟨acc, a1, a2, a3⟩ := B.push z (by rw [List.length_take]; omega)
      refine ⟨rfl, _, rfl, .inr ⟨us[i], _, rfl, z, acc, a1, a2, ?_, fun b o e => ?_⟩⟩
      · rw [List.take_succ, hl]
        exact a3
      · rw [upd_ne (ne_of_none e hpl)]
        exact S1 _ _ e
    rintro H2 ⟨B2, S2⟩
    rw [List.length_map, r2, List.take_length] at B2
    have hx2 := S2 _ _ hG1
    have SB : SameB x H H2 := SG1.trans (SameB.of_same S2)
    refine ⟨_, rfl, x, CS, dx, _, rfl, hx2, T.cl, T.na _ (by decide), Nat.lt_of_le_of_lt hf1 (by decide), ?_⟩
    have eG2 : SameB x H2 (upd H2 x (.ins CS dx (putF "_links" (V.ref pl) fs1))) := fun b o n e => (upd_ne n).trans e
    have hG2 : upd H2 x (.ins CS dx (putF "_links" (V.ref pl) fs1)) x = some (.ins CS dx (putF "_links" (V.ref pl) fs1)) := upd_same
    have hf2 : (putF "_links" (V.ref pl) fs1).length ≤ 2 := Nat.le_trans (putF_len _ _ _) (Nat.succ_le_succ hf1)
    have lk2_rows : (putF "_links" (V.ref pl) fs1).lookup ("_rows" : Str) = some (V.ref pr) := by rw [lookup_putF, if_neg (by decide)]; exact lk1_rows
    have lk2_links : (putF "_links" (V.ref pl) fs1).lookup ("_links" : Str) = some (V.ref pl) := by rw [lookup_putF, if_pos rfl]
    have ln2 : ∀ m : Str, m ∉ (["_rows", "_links"] : List Str) → (putF "_links" (V.ref pl) fs1).lookup m = none := fun m hm => by rw [lookup_putF, if_neg (fun z => hm (by rw [z]; decide))]; exact ln1 m fun z => hm (show m ∈ ((["_rows"] : List Str) ++ [("_links" : Str)]) from List.mem_append_left _ z)
    have SG2 : SameB x H (upd H2 x (.ins CS dx (putF "_links" (V.ref pl) fs1))) := SB.trans eG2
    generalize upd H2 x (.ins CS dx (putF "_links" (V.ref pl) fs1)) = G2 at eG2 hG2 SG2
    generalize (putF "_links" (V.ref pl) fs1) = fs2 at hG2 hf2 ln2 lk2_rows lk2_links
    have st := (SameB.of_same S2).trans eG2
    have fR := fun H' (s : SameB x G2 H') => fR H' (st.trans s)
    have fLn := fun H' (s : SameB x G2 H') => B2.sB hx2 (eG2.trans s)
    refine ⟨_, rfl, x, CS, dx, _, _, rfl, hG2, T.cl, T.na _ (by decide), lk2_rows, pr, ws, rfl, fR G2 (fun _ _ _ e => e), by omega, fW, fun b hb => (h1 b hb).mono fun H' s => SG2.trans (SameB.of_same s), fun hn H3 S3 => ?_⟩
    obtain ⟨h3, h4⟩ := h2 hn
    have nd := spots_nodup ws (rows_names ws [] hn).2
    have hx3 := S3 _ _ hG2
    have SB : SameB x H H3 := SG2.trans (SameB.of_same S3)
    have st := SameB.of_same (b := x) S3
    have fR := fun H' (s : SameB x H3 H') => fR H' (st.trans s)
    have fLn := fun H' (s : SameB x H3 H') => fLn H' (st.trans s)
    have sl := spots_places ws
    refine ⟨_, rfl, x, CS, dx, _, _, rfl, hx3, T.cl, T.na _ (by decide), lk2_rows, pr, ws, rfl, fR H3 (fun _ _ _ e => e), by omega, fun ps H4 nps S4 R4 => ?_⟩
    have hps0 := none_backB SB nps hx3
    have hx4 := S4 _ _ hx3
    have SB : SameB x H H4 := SB.trans (SameB.of_same S4)
    refine ⟨_, rfl, x, CS, dx, _, rfl, hx4, T.cl, T.na _ (by decide), Nat.lt_of_le_of_lt hf2 (by decide), ?_⟩
    have eG3 : SameB x H4 (upd H4 x (.ins CS dx (putF "_spots" (V.ref ps) fs2))) := fun b o n e => (upd_ne n).trans e
    have hG3 : upd H4 x (.ins CS dx (putF "_spots" (V.ref ps) fs2)) x = some (.ins CS dx (putF "_spots" (V.ref ps) fs2)) := upd_same
    have hf3 : (putF "_spots" (V.ref ps) fs2).length ≤ 3 := Nat.le_trans (putF_len _ _ _) (Nat.succ_le_succ hf2)
    have lk3_rows : (putF "_spots" (V.ref ps) fs2).lookup ("_rows" : Str) = some (V.ref pr) := by rw [lookup_putF, if_neg (by decide)]; exact lk2_rows
    have lk3_links : (putF "_spots" (V.ref ps) fs2).lookup ("_links" : Str) = some (V.ref pl) := by rw [lookup_putF, if_neg (by decide)]; exact lk2_links
    have lk3_spots : (putF "_spots" (V.ref ps) fs2).lookup ("_spots" : Str) = some (V.ref ps) := by rw [lookup_putF, if_pos rfl]
    have ln3 : ∀ m : Str, m ∉ (["_rows", "_links", "_spots"] : List Str) → (putF "_spots" (V.ref ps) fs2).lookup m = none := fun m hm => by rw [lookup_putF, if_neg (fun z => hm (by rw [z]; decide))]; exact ln2 m fun z => hm (show m ∈ ((["_rows", "_links"] : List Str) ++ [("_spots" : Str)]) from List.mem_append_left _ z)
    have SG3 : SameB x H (upd H4 x (.ins CS dx (putF "_spots" (V.ref ps) fs2))) := SB.trans eG3
    generalize upd H4 x (.ins CS dx (putF "_spots" (V.ref ps) fs2)) = G3 at eG3 hG3 SG3
    generalize (putF "_spots" (V.ref ps) fs2) = fs3 at hG3 hf3 ln3 lk3_rows lk3_links lk3_spots
    have st := (SameB.of_same S4).trans eG3
    have fR := fun H' (s : SameB x G3 H') => fR H' (st.trans s)
    have fLn := fun H' (s : SameB x G3 H') => fLn H' (st.trans s)
    have fSp := fun H' (s : SameB x G3 H') => R4.sB hx4 (eG3.trans s)
    obtain ⟨vs, y1, y2, y3⟩ := fSp G3 (fun _ _ _ e => e)
    refine ⟨_, rfl, x, CS, dx, _, _, rfl, hG3, T.cl, T.na _ (by decide), lk3_spots, ps, _, rfl, SqL.of y1, fun pd hpd => ?_⟩
    have hpd0 := none_backB SG3 hpd hG3
    refine DcT.dcT_it (walk_enum (xs := vs.map V.ref)) (fun i H' => PlcAt H' pd ((spotsOf ws).take i) ∧ Same G3 H') ⟨⟨[], upd_same, Nat.le_refl _, fun m s z => (by cases z), fun _ _ => rfl⟩, same_new hpd⟩ (fun _ _ _ h => SqL.of (h.2 _ _ y1)) ?_ ?_
    · rintro i y H5 H6 hi ⟨B, S5⟩ ⟨T0, u0, v0, rfl, hT, rfl, hu, hv⟩
      rw [List.length_map] at hi
      cases hu
      have hv : (vs.map V.ref)[i]? = some v0 := hv
      rw [List.getElem?_map, List.getElem?_eq_getElem hi] at hv
      cases hv
      obtain ⟨⟨sn, sj⟩, hs⟩ : ∃ s, (spotsOf ws)[i]? = some s := ⟨_, List.getElem?_eq_getElem (by omega)⟩
      have z := S5 _ _ (y3 i _ sn sj (List.getElem?_eq_getElem hi) hs)
      have sT := same_new (o := .tup [V.int (i : Nat), V.ref vs[i]]) hT
      obtain ⟨kv, k1, k2, k3⟩ := (show PlcAt (upd H5 T0 (.tup [V.int (i : Nat), V.ref vs[i]])) pd ((spotsOf ws).take i) from by obtain ⟨kv, a, b⟩ := B; exact ⟨kv, sT _ _ a, b⟩).put hs nd (by omega)
      refine ⟨T0, _, rfl, SqT.of upd_same, rfl, _, _, rfl, _, _, rfl, rfl, rfl, _, rfl, _, rfl, kv, keyS (sn, sj), vs[i], rfl, k1, sT _ _ z, k2, k3, fun b o e => ?_⟩
      rw [upd_ne (ne_of_none e hpd)]
      exact sT _ _ (S5 _ _ e)
    rintro H5 ⟨B5, S5⟩
    rw [List.length_map, y2, List.take_length] at B5
    have hx5 := S5 _ _ hG3
    have SB : SameB x H H5 := SG3.trans (SameB.of_same S5)
    refine ⟨_, rfl, x, CS, dx, _, rfl, hx5, T.cl, T.na _ (by decide), Nat.lt_of_le_of_lt hf3 (by decide), ?_⟩
    have eG4 : SameB x H5 (upd H5 x (.ins CS dx (putF "_places" (V.ref pd) fs3))) := fun b o n e => (upd_ne n).trans e
    have hG4 : upd H5 x (.ins CS dx (putF "_places" (V.ref pd) fs3)) x = some (.ins CS dx (putF "_places" (V.ref pd) fs3)) := upd_same
    have hf4 : (putF "_places" (V.ref pd) fs3).length ≤ 4 := Nat.le_trans (putF_len _ _ _) (Nat.succ_le_succ hf3)
    have lk4_rows : (putF "_places" (V.ref pd) fs3).lookup ("_rows" : Str) = some (V.ref pr) := by rw [lookup_putF, if_neg (by decide)]; exact lk3_rows
    have lk4_links : (putF "_places" (V.ref pd) fs3).lookup ("_links" : Str) = some (V.ref pl) := by rw [lookup_putF, if_neg (by decide)]; exact lk3_links
    have lk4_spots : (putF "_places" (V.ref pd) fs3).lookup ("_spots" : Str) = some (V.ref ps) := by rw [lookup_putF, if_neg (by decide)]; exact lk3_spots
    have lk4_places : (putF "_places" (V.ref pd) fs3).lookup ("_places" : Str) = some (V.ref pd) := by rw [lookup_putF, if_pos rfl]
    have ln4 : ∀ m : Str, m ∉ (["_rows", "_links", "_spots", "_places"] : List Str) → (putF "_places" (V.ref pd) fs3).lookup m = none := fun m hm => by rw [lookup_putF, if_neg (fun z => hm (by rw [z]; decide))]; exact ln3 m fun z => hm (show m ∈ ((["_rows", "_links", "_spots"] : List Str) ++ [("_places" : Str)]) from List.mem_append_left _ z)
    have SG4 : SameB x H (upd H5 x (.ins CS dx (putF "_places" (V.ref pd) fs3))) := SB.trans eG4
    generalize upd H5 x (.ins CS dx (putF "_places" (V.ref pd) fs3)) = G4 at eG4 hG4 SG4
    generalize (putF "_places" (V.ref pd) fs3) = fs4 at hG4 hf4 ln4 lk4_rows lk4_links lk4_spots lk4_places
    have st := (SameB.of_same S5).trans eG4
    have fR := fun H' (s : SameB x G4 H') => fR H' (st.trans s)
    have fLn := fun H' (s : SameB x G4 H') => fLn H' (st.trans s)
    have fSp := fun H' (s : SameB x G4 H') => fSp H' (st.trans s)
    have fPl := fun H' (s : SameB x G4 H') => B5.sB hx5 (eG4.trans s)
    refine ⟨_, rfl, x, CS, dx, _, _, rfl, hG4, T.cl, T.na _ (by decide), lk4_rows, pr, ws, rfl, fR G4 (fun _ _ _ e => e), by omega, fun pt H6 npt S6 R6 => ?_⟩
    have hpt0 := none_backB SG4 npt hG4
    have hx6 := S6 _ _ hG4
    have SB : SameB x H H6 := SG4.trans (SameB.of_same S6)
    refine ⟨_, rfl, x, CS, dx, _, rfl, hx6, T.cl, T.na _ (by decide), Nat.lt_of_le_of_lt hf4 (by decide), ?_⟩
    have eG5 : SameB x H6 (upd H6 x (.ins CS dx (putF "_tops" (V.ref pt) fs4))) := fun b o n e => (upd_ne n).trans e
    have hG5 : upd H6 x (.ins CS dx (putF "_tops" (V.ref pt) fs4)) x = some (.ins CS dx (putF "_tops" (V.ref pt) fs4)) := upd_same
    have hf5 : (putF "_tops" (V.ref pt) fs4).length ≤ 5 := Nat.le_trans (putF_len _ _ _) (Nat.succ_le_succ hf4)
    have lk5_rows : (putF "_tops" (V.ref pt) fs4).lookup ("_rows" : Str) = some (V.ref pr) := by rw [lookup_putF, if_neg (by decide)]; exact lk4_rows
    have lk5_links : (putF "_tops" (V.ref pt) fs4).lookup ("_links" : Str) = some (V.ref pl) := by rw [lookup_putF, if_neg (by decide)]; exact lk4_links
    have lk5_spots : (putF "_tops" (V.ref pt) fs4).lookup ("_spots" : Str) = some (V.ref ps) := by rw [lookup_putF, if_neg (by decide)]; exact lk4_spots
    have lk5_places : (putF "_tops" (V.ref pt) fs4).lookup ("_places" : Str) = some (V.ref pd) := by rw [lookup_putF, if_neg (by decide)]; exact lk4_places
    have lk5_tops : (putF "_tops" (V.ref pt) fs4).lookup ("_tops" : Str) = some (V.ref pt) := by rw [lookup_putF, if_pos rfl]
    have ln5 : ∀ m : Str, m ∉ (["_rows", "_links", "_spots", "_places", "_tops"] : List Str) → (putF "_tops" (V.ref pt) fs4).lookup m = none := fun m hm => by rw [lookup_putF, if_neg (fun z => hm (by rw [z]; decide))]; exact ln4 m fun z => hm (show m ∈ ((["_rows", "_links", "_spots", "_places"] : List Str) ++ [("_tops" : Str)]) from List.mem_append_left _ z)
    have SG5 : SameB x H (upd H6 x (.ins CS dx (putF "_tops" (V.ref pt) fs4))) := SB.trans eG5
    generalize upd H6 x (.ins CS dx (putF "_tops" (V.ref pt) fs4)) = G5 at eG5 hG5 SG5
    generalize (putF "_tops" (V.ref pt) fs4) = fs5 at hG5 hf5 ln5 lk5_rows lk5_links lk5_spots lk5_places lk5_tops
    have st := (SameB.of_same S6).trans eG5
    have fR := fun H' (s : SameB x G5 H') => fR H' (st.trans s)
    have fLn := fun H' (s : SameB x G5 H') => fLn H' (st.trans s)
    have fSp := fun H' (s : SameB x G5 H') => fSp H' (st.trans s)
    have fPl := fun H' (s : SameB x G5 H') => fPl H' (st.trans s)
    have fTo := fun H' (s : SameB x G5 H') => lst_sB R6 hx6 (eG5.trans s)
    obtain ⟨vs2, y1, y2, y3⟩ := fSp G5 (fun _ _ _ e => e)
    refine ⟨_, rfl, x, CS, dx, _, _, rfl, hG5, T.cl, T.na _ (by decide), lk5_spots, ps, _, rfl, .inl (SqL.of y1), ?_⟩
    have ep : (vs2.map V.ref).length = places ws := by rw [List.length_map, y2]; exact sl
    rw [ep]
    have SB : SameB x H G5 := SG5
    refine ⟨_, rfl, x, CS, dx, _, rfl, hG5, T.cl, T.na _ (by decide), Nat.lt_of_le_of_lt hf5 (by decide), ?_⟩
    have eG6 : SameB x G5 (upd G5 x (.ins CS dx (putF "size" (V.int (places ws : Nat)) fs5))) := fun b o n e => (upd_ne n).trans e
    have hG6 : upd G5 x (.ins CS dx (putF "size" (V.int (places ws : Nat)) fs5)) x = some (.ins CS dx (putF "size" (V.int (places ws : Nat)) fs5)) := upd_same
    have hf6 : (putF "size" (V.int (places ws : Nat)) fs5).length ≤ 6 := Nat.le_trans (putF_len _ _ _) (Nat.succ_le_succ hf5)
    have lk6_rows : (putF "size" (V.int (places ws : Nat)) fs5).lookup ("_rows" : Str) = some (V.ref pr) := by rw [lookup_putF, if_neg (by decide)]; exact lk5_rows
    have lk6_links : (putF "size" (V.int (places ws : Nat)) fs5).lookup ("_links" : Str) = some (V.ref pl) := by rw [lookup_putF, if_neg (by decide)]; exact lk5_links
    have lk6_spots : (putF "size" (V.int (places ws : Nat)) fs5).lookup ("_spots" : Str) = some (V.ref ps) := by rw [lookup_putF, if_neg (by decide)]; exact lk5_spots
    have lk6_places : (putF "size" (V.int (places ws : Nat)) fs5).lookup ("_places" : Str) = some (V.ref pd) := by rw [lookup_putF, if_neg (by decide)]; exact lk5_places
    have lk6_tops : (putF "size" (V.int (places ws : Nat)) fs5).lookup ("_tops" : Str) = some (V.ref pt) := by rw [lookup_putF, if_neg (by decide)]; exact lk5_tops
    have lk6size : (putF "size" (V.int (places ws : Nat)) fs5).lookup ("size" : Str) = some (V.int (places ws : Nat)) := by rw [lookup_putF, if_pos rfl]
    have ln6 : ∀ m : Str, m ∉ (["_rows", "_links", "_spots", "_places", "_tops", "size"] : List Str) → (putF "size" (V.int (places ws : Nat)) fs5).lookup m = none := fun m hm => by rw [lookup_putF, if_neg (fun z => hm (by rw [z]; decide))]; exact ln5 m fun z => hm (show m ∈ ((["_rows", "_links", "_spots", "_places", "_tops"] : List Str) ++ [("size" : Str)]) from List.mem_append_left _ z)
    have SG6 : SameB x H (upd G5 x (.ins CS dx (putF "size" (V.int (places ws : Nat)) fs5))) := SB.trans eG6
    generalize upd G5 x (.ins CS dx (putF "size" (V.int (places ws : Nat)) fs5)) = G6 at eG6 hG6 SG6
    generalize (putF "size" (V.int (places ws : Nat)) fs5) = fs6 at hG6 hf6 ln6 lk6_rows lk6_links lk6_spots lk6_places lk6_tops lk6size
    have fR := fun H' (s : SameB x G6 H') => fR H' (eG6.trans s)
    have fLn := fun H' (s : SameB x G6 H') => fLn H' (eG6.trans s)
    have fSp := fun H' (s : SameB x G6 H') => fSp H' (eG6.trans s)
    have fPl := fun H' (s : SameB x G6 H') => fPl H' (eG6.trans s)
    have fTo := fun H' (s : SameB x G6 H') => fTo H' (eG6.trans s)
    refine ⟨_, rfl, x, CS, dx, _, _, rfl, hG6, T.cl, T.na _ (by decide), lk6size, _, _, rfl, rfl, _, rfl, ?_⟩
    by_cases c24 : (24 : Int) < (places ws : Nat)
    · refine if_t (decide_eq_true c24) ⟨_, rfl, x, CS, dx, _, _, rfl, hG6, T.cl, T.na _ (by decide), lk6size, ?_⟩
      exact err_way (Sz.ok (Nat.lt_of_le_of_lt (show ((places ws : Nat) : Int).natAbs ≤ 1000 by omega) (by decide +kernel))) fun d hd => h3 (by omega) G6 d SG6 hd
    refine if_f (decide_eq_false c24) ?_
    obtain ⟨h5, h6⟩ := h4 (by omega)
    refine ⟨_, rfl, x, CS, dx, _, _, rfl, hG6, T.cl, T.na _ (by decide), lk6_links, _, rfl, x, CS, dx, _, _, rfl, hG6, T.cl, T.na _ (by decide), lk6size, pl, ls, _, rfl, fLn G6 (fun _ _ _ e => e), fL, fun z hz => (h5 z hz).mono fun H' s => SG6.trans (SameB.of_same s), fun hl => ?_⟩
    have h7 := h6 hl
    refine ⟨_, rfl, x, CS, dx, _, _, rfl, hG6, T.cl, T.na _ (by decide), lk6_rows, _, rfl, x, CS, dx, _, _, rfl, hG6, T.cl, T.na _ (by decide), lk6_tops, _, rfl, x, CS, dx, _, _, rfl, hG6, T.cl, T.na _ (by decide), lk6_links, pr, pt, pl, ws, ls, rfl, fR G6 (fun _ _ _ e => e), fTo G6 (fun _ _ _ e => e), fLn G6 (fun _ _ _ e => e), by omega, by omega, fun w hw => (fW w hw).2.2, fun ptd H7 nptd S7 R7 => ?_⟩
    have hx7 := S7 _ _ hG6
    have SB : SameB x H H7 := SG6.trans (SameB.of_same S7)
    refine ⟨_, rfl, x, CS, dx, _, rfl, hx7, T.cl, T.na _ (by decide), Nat.lt_of_le_of_lt hf6 (by decide), ?_⟩
    have eG7 : SameB x H7 (upd H7 x (.ins CS dx (putF "_told" (V.ref ptd) fs6))) := fun b o n e => (upd_ne n).trans e
    have hG7 : upd H7 x (.ins CS dx (putF "_told" (V.ref ptd) fs6)) x = some (.ins CS dx (putF "_told" (V.ref ptd) fs6)) := upd_same
    have hf7 : (putF "_told" (V.ref ptd) fs6).length ≤ 7 := Nat.le_trans (putF_len _ _ _) (Nat.succ_le_succ hf6)
    have lk7_rows : (putF "_told" (V.ref ptd) fs6).lookup ("_rows" : Str) = some (V.ref pr) := by rw [lookup_putF, if_neg (by decide)]; exact lk6_rows
    have lk7_links : (putF "_told" (V.ref ptd) fs6).lookup ("_links" : Str) = some (V.ref pl) := by rw [lookup_putF, if_neg (by decide)]; exact lk6_links
    have lk7_spots : (putF "_told" (V.ref ptd) fs6).lookup ("_spots" : Str) = some (V.ref ps) := by rw [lookup_putF, if_neg (by decide)]; exact lk6_spots
    have lk7_places : (putF "_told" (V.ref ptd) fs6).lookup ("_places" : Str) = some (V.ref pd) := by rw [lookup_putF, if_neg (by decide)]; exact lk6_places
    have lk7_tops : (putF "_told" (V.ref ptd) fs6).lookup ("_tops" : Str) = some (V.ref pt) := by rw [lookup_putF, if_neg (by decide)]; exact lk6_tops
    have lk7size : (putF "_told" (V.ref ptd) fs6).lookup ("size" : Str) = some (V.int (places ws : Nat)) := by rw [lookup_putF, if_neg (by decide)]; exact lk6size
    have lk7_told : (putF "_told" (V.ref ptd) fs6).lookup ("_told" : Str) = some (V.ref ptd) := by rw [lookup_putF, if_pos rfl]
    have ln7 : ∀ m : Str, m ∉ (["_rows", "_links", "_spots", "_places", "_tops", "size", "_told"] : List Str) → (putF "_told" (V.ref ptd) fs6).lookup m = none := fun m hm => by rw [lookup_putF, if_neg (fun z => hm (by rw [z]; decide))]; exact ln6 m fun z => hm (show m ∈ ((["_rows", "_links", "_spots", "_places", "_tops", "size"] : List Str) ++ [("_told" : Str)]) from List.mem_append_left _ z)
    have SG7 : SameB x H (upd H7 x (.ins CS dx (putF "_told" (V.ref ptd) fs6))) := SB.trans eG7
    generalize upd H7 x (.ins CS dx (putF "_told" (V.ref ptd) fs6)) = G7 at eG7 hG7 SG7
    generalize (putF "_told" (V.ref ptd) fs6) = fs7 at hG7 hf7 ln7 lk7_rows lk7_links lk7_spots lk7_places lk7_tops lk7size lk7_told
    have st := (SameB.of_same S7).trans eG7
    have fR := fun H' (s : SameB x G7 H') => fR H' (st.trans s)
    have fLn := fun H' (s : SameB x G7 H') => fLn H' (st.trans s)
    have fSp := fun H' (s : SameB x G7 H') => fSp H' (st.trans s)
    have fPl := fun H' (s : SameB x G7 H') => fPl H' (st.trans s)
    have fTo := fun H' (s : SameB x G7 H') => fTo H' (st.trans s)
    have R7G : G7 ptd = some (.dT (kvT (toldOf ws ls))) := eG7 _ _ (fun z => by rw [z, hx7] at R7; cases R7) R7
    have tl : (toldOf ws ls).length ≤ 900 := by
      have a := fold_len (limsOf ws ls) []
      have b := lims_len ws ls
      have a : (toldOf ws ls).length ≤ 0 + (limsOf ws ls).length := a
      omega
    refine ⟨_, rfl, x, CS, dx, _, _, rfl, hG7, T.cl, T.na _ (by decide), lk7size, _, rfl, x, CS, dx, _, _, rfl, hG7, T.cl, T.na _ (by decide), lk7_told, places ws, ptd, _, rfl, R7G, by omega, tl, told_nodes hl, fun hsh rg H8 nrg S8 R8 => ?_, fun hsh rg H8 nrg S8 R8 => ?_⟩
    rotate_left
    · obtain ⟨ring, g1, g2, g3, g4⟩ := R8
      have hgt : (ring.map V.int).isEmpty = false := by
        cases ring with
        | nil => exact absurd rfl g2
        | cons x r => rfl
      refine ⟨_, rfl, true, .inl ⟨_, SqL.of g1, by rw [hgt]; rfl⟩, if_t rfl ⟨_, rfl, ?_⟩⟩
      refine err_wayL g1 (by rw [List.length_map]; omega) (fun v hv => ?_) fun c d hc hd => ?_
      · obtain ⟨z, hz, rfl⟩ := List.mem_map.mp hv
        have := g4 z hz
        exact .inl ⟨z, rfl, log_of (by decide) (Nat.lt_of_le_of_lt (show z.natAbs ≤ 1000 by omega) (by decide +kernel))⟩
      · exact h7.2 (fun ⟨pi, hpi⟩ => hsh ⟨pi, hpi⟩) _ c d (SG7.trans (SameB.of_same (same_tr S8 (same_new hc)))) hd
    have hx8 := S8 _ _ hG7
    have SB : SameB x H H8 := SG7.trans (SameB.of_same S8)
    have st := SameB.of_same (b := x) S8
    refine ⟨_, rfl, false, .inl ⟨[], SqL.of R8, rfl⟩, if_f (by decide) ?_⟩
    have fR := fun H' (s : SameB x H8 H') => fR H' (st.trans s)
    have fLn := fun H' (s : SameB x H8 H') => fLn H' (st.trans s)
    have fSp := fun H' (s : SameB x H8 H') => fSp H' (st.trans s)
    have fPl := fun H' (s : SameB x H8 H') => fPl H' (st.trans s)
    have fTo := fun H' (s : SameB x H8 H') => fTo H' (st.trans s)
    refine ⟨_, rfl, x, CS, dx, _, _, rfl, hx8, T.cl, T.na _ (by decide), lk7size, _, rfl, x, CS, dx, _, _, rfl, hx8, T.cl, T.na _ (by decide), lk7_told, places ws, ptd, _, rfl, S8 _ _ R7G, by omega, told_full ws ls, fun plm H9 nplm S9 R9 => ?_⟩
    have hx9 := S9 _ _ hx8
    have SB : SameB x H H9 := SB.trans (SameB.of_same S9)
    refine ⟨_, rfl, x, CS, dx, _, rfl, hx9, T.cl, T.na _ (by decide), Nat.lt_of_le_of_lt hf7 (by decide), ?_⟩
    have eG8 : SameB x H9 (upd H9 x (.ins CS dx (putF "_limits" (V.ref plm) fs7))) := fun b o n e => (upd_ne n).trans e
    have hG8 : upd H9 x (.ins CS dx (putF "_limits" (V.ref plm) fs7)) x = some (.ins CS dx (putF "_limits" (V.ref plm) fs7)) := upd_same
    have hf8 : (putF "_limits" (V.ref plm) fs7).length ≤ 8 := Nat.le_trans (putF_len _ _ _) (Nat.succ_le_succ hf7)
    have lk8_rows : (putF "_limits" (V.ref plm) fs7).lookup ("_rows" : Str) = some (V.ref pr) := by rw [lookup_putF, if_neg (by decide)]; exact lk7_rows
    have lk8_links : (putF "_limits" (V.ref plm) fs7).lookup ("_links" : Str) = some (V.ref pl) := by rw [lookup_putF, if_neg (by decide)]; exact lk7_links
    have lk8_spots : (putF "_limits" (V.ref plm) fs7).lookup ("_spots" : Str) = some (V.ref ps) := by rw [lookup_putF, if_neg (by decide)]; exact lk7_spots
    have lk8_places : (putF "_limits" (V.ref plm) fs7).lookup ("_places" : Str) = some (V.ref pd) := by rw [lookup_putF, if_neg (by decide)]; exact lk7_places
    have lk8_tops : (putF "_limits" (V.ref plm) fs7).lookup ("_tops" : Str) = some (V.ref pt) := by rw [lookup_putF, if_neg (by decide)]; exact lk7_tops
    have lk8size : (putF "_limits" (V.ref plm) fs7).lookup ("size" : Str) = some (V.int (places ws : Nat)) := by rw [lookup_putF, if_neg (by decide)]; exact lk7size
    have lk8_told : (putF "_limits" (V.ref plm) fs7).lookup ("_told" : Str) = some (V.ref ptd) := by rw [lookup_putF, if_neg (by decide)]; exact lk7_told
    have lk8_limits : (putF "_limits" (V.ref plm) fs7).lookup ("_limits" : Str) = some (V.ref plm) := by rw [lookup_putF, if_pos rfl]
    have ln8 : ∀ m : Str, m ∉ (["_rows", "_links", "_spots", "_places", "_tops", "size", "_told", "_limits"] : List Str) → (putF "_limits" (V.ref plm) fs7).lookup m = none := fun m hm => by rw [lookup_putF, if_neg (fun z => hm (by rw [z]; decide))]; exact ln7 m fun z => hm (show m ∈ ((["_rows", "_links", "_spots", "_places", "_tops", "size", "_told"] : List Str) ++ [("_limits" : Str)]) from List.mem_append_left _ z)
    have SG8 : SameB x H (upd H9 x (.ins CS dx (putF "_limits" (V.ref plm) fs7))) := SB.trans eG8
    generalize upd H9 x (.ins CS dx (putF "_limits" (V.ref plm) fs7)) = G8 at eG8 hG8 SG8
    generalize (putF "_limits" (V.ref plm) fs7) = fs8 at hG8 hf8 ln8 lk8_rows lk8_links lk8_spots lk8_places lk8_tops lk8size lk8_told lk8_limits
    have st := (SameB.of_same S9).trans eG8
    have td8 : G8 ptd = some (.dT (kvT (toldOf ws ls))) := by
      have e := S9 _ _ (S8 _ _ R7G)
      exact eG8 _ _ (fun z => by rw [z, hx9] at e; cases e) e
    obtain ⟨ts8, a8, b8, c8⟩ : TabAt G8 plm (leastSums (places ws) (toldOf ws ls)) := by
      obtain ⟨ts, a, b, c⟩ := R9
      exact ⟨ts, eG8 _ _ (fun z => by rw [z, hx9] at a; cases a) a, b, fun i t r e1 e2 => by
        have e := c i t r e1 e2
        exact eG8 _ _ (fun z => by rw [z, hx9] at e; cases e) e⟩
    have z0 := fun H' (s : SameB x G8 H') => st.trans s
    refine h7.1 hsh G8 SG8 fun Hs n => ⟨dx, fs8, pr, pl, ps, pd, pt, n.new x _ (.inr rfl) hG8, ⟨lk8_rows, (fR G8 st).newIn n hpr⟩, ⟨lk8_links, (fLn G8 st).newIn n hpl0⟩, ⟨lk8_spots, (fSp G8 st).newIn n hps0⟩, ⟨lk8_places, (fPl G8 st).newIn n hpd0⟩, ⟨lk8_tops, n.new _ _ (.inl hpt0) (fTo G8 st)⟩, lk8size, ln8, ptd, plm, lk8_told, n.all _ _ td8, lk8_limits, ts8, n.all _ _ a8, b8, fun i t r e1 e2 => n.all _ _ (c8 i t r e1 e2)⟩
end
end Law

/-! The law's heights. -/
namespace Law
open PySem PySem.Spec PyProof.Rows L2 Sup
abbrev sTru : Stmt := top 42
abbrev sSpn : Stmt := top 43
theorem Box.neL3 {H : Hp} {b l p : Addr} {ts : List Addr} (B : Box H b l) (h : H p = some (.lst (ts.map V.ref))) : p ≠ b := fun z => by
  obtain ⟨_, _, _, _, q, _⟩ := B
  rw [z, q] at h
  have e := HO.lst.inj (Option.some.inj h)
  match ts, e with
  | [], e => cases e
  | [_], e => cases e
  | _ :: _ :: _, e =>
    rw [List.map_cons, List.map_cons] at e
    injection e with _ e
    injection e with e _
    cases e
theorem sqT_sameB {K : PySem.W.Frag} {H H' : Hp} {b l a : Addr} {xs : List V} (h : SqT K H a xs) (B : Box H b l) (s : SameB b H H') : SqT K H' a xs := by
  obtain ⟨_, _, _, _, q, _⟩ := B
  rcases h with (h | ⟨o, h⟩) | h
  · exact .inl (.inl (s _ _ (fun z => by rw [z, q] at h; cases h) h))
  · exact .inl (.inr ⟨o, s _ _ (fun z => by rw [z, q] at h; cases h) h⟩)
  · exact .inr h
theorem WalT.sameB {K : PySem.W.Frag} {H H' : Hp} {b l t : Addr} {w : Wal} (h : WalT K H t w) (B : Box H b l) (s : SameB b H H') : WalT K H' t w := by
  obtain ⟨sp, h1, h2⟩ := h
  exact ⟨sp, s _ _ (B.neT h1) h1, sqT_sameB h2 B s⟩
theorem WalsAt.sameB {K : PySem.W.Frag} {H H' : Hp} {b l p : Addr} {ws : List Wal} (h : WalsAt K H p ws) (B : Box H b l) (s : SameB b H H') : WalsAt K H' p ws := by
  obtain ⟨ts, h1, h2, h3⟩ := h
  exact ⟨ts, s _ _ (B.neL3 h1) h1, h2, fun i t w e1 e2 => (h3 i t w e1 e2).sameB B s⟩
/-- heights that one wall allows -/
structure Fit1 (tp sl : Int) (spans hs : List Int) : Prop where
  len : hs.length = spans.length + 1
  top : ∀ h ∈ hs, 0 ≤ h ∧ h ≤ tp
  slope : ∀ (i : Nat) (a c x : Int), hs[i]? = some a → hs[i + 1]? = some c → spans[i]? = some x → c - a ≤ sl * x ∧ a - c ≤ sl * x
def spTru (K : PySem.W.Frag) : Sp := fun vs H Q _ => ∃ (b l sp : Addr) (tp sl : Int) (spans : List Int), vs = [.ref b, .int tp, .int sl, .ref sp] ∧ Box H b l ∧ SqT K H sp (spans.map V.int) ∧ 0 ≤ tp ∧ tp ≤ 10 ^ 16 ∧ 0 ≤ sl ∧ sl ≤ 10 ^ 16 ∧
  (∀ x ∈ spans, 1 ≤ x ∧ x ≤ 10 ^ 16) ∧ spans.length ≤ 100 ∧ ∀ (q : Addr) (hs : List Int) (H' : Hp), H q = none → Fit1 tp sl spans hs → H' q = some (.lst (hs.map V.int)) → Box H' b l → SameB b H H' → Q (.ref q) H'
def spSpn : Sp := fun vs H Q _ => ∃ (b l : Addr) (tall : Int), vs = [.ref b, .int tall] ∧ Box H b l ∧ ∀ (x : Int) (H' : Hp), 1 ≤ x → x ≤ 10 ^ 12 → Box H' b l → (∀ c, c ≠ b → H' c = H c) → Q (.int x) H'
structure TruTxt (mg : Str → Option Value) (fT : Addr) : Prop where
  take : mg "_law_take" = some (.ref fT)
  b_max : mg "max" = none
  b_min : mg "min" = none
  b_int : mg "int" = none
theorem Fit1.snoc {tp sl x r : Int} {spans hs : List Int} {a : Int} (h : Fit1 tp sl spans (hs ++ [a])) (h0 : 0 ≤ r) (h1 : r ≤ tp) (h2 : r - a ≤ sl * x) (h3 : a - r ≤ sl * x) : Fit1 tp sl (spans ++ [x]) (hs ++ [a] ++ [r]) := by
  have hl := h.len
  refine ⟨by rw [List.length_append, hl, List.length_append]; rfl, fun y hy => ?_, fun i u v y e1 e2 e3 => ?_⟩
  · rcases List.mem_append.mp hy with hy | hy
    · exact h.top y hy
    · rw [List.mem_singleton] at hy
      omega
  · by_cases c : i < spans.length
    · rw [List.getElem?_append_left (by omega)] at e1 e2
      rw [List.getElem?_append_left c] at e3
      exact h.slope i u v y e1 e2 e3
    · by_cases c2 : i = spans.length
      · subst c2
        rw [List.getElem?_append_right (Nat.le_refl _), Nat.sub_self] at e3
        cases e3
        rw [← hl, List.getElem?_append_right (Nat.le_refl _), Nat.sub_self] at e2
        cases e2
        have hl2 : hs.length = spans.length := by
          rw [List.length_append] at hl
          exact Nat.succ.inj hl
        rw [List.getElem?_append_left (by omega), ← hl2, List.getElem?_append_right (Nat.le_refl _), Nat.sub_self] at e1
        cases e1
        exact ⟨h2, h3⟩
      · rw [List.getElem?_eq_none (by rw [List.length_append]; show spans.length + 1 ≤ i; omega)] at e3
        cases e3
section
variable {P : Program} {w : World} {K : PySem.W.Frag} {mg : Str → Option Value} {base : Heap}
theorem scTru : FnScope ["_law_box_here", "_law_top", "_law_slope", "_law_spans", "_law_heights", "_law_span_here", "_law_low", "_law_high"] ["_law_box_here", "_law_top", "_law_slope", "_law_spans"] (defScope sTru) := ⟨rfl, rfl, rfl, by decide +kernel, rfl, by decide +kernel, by decide +kernel⟩
theorem scSpn : FnScope ["_law_box_here", "_law_tall"] ["_law_box_here", "_law_tall"] (defScope sSpn) := ⟨rfl, rfl, rfl, by decide +kernel, rfl, by decide +kernel, by decide +kernel⟩
set_option maxHeartbeats 0 in
theorem ok_spn {f fT : Addr} {fd fdT : FuncData} (F : Fun K "_law_span" "_law_span" sSpn f fd) (GT : FnOk P w K mg base CX0 1 fT fdT ["_law_box_here", "_law_size"] spTake) (FT : Fun K "_law_take" "_law_take" sTake fT fdT) (bT : Binds K fdT ["_law_box_here", "_law_size"] []) (T : TruTxt mg fT) :
    FnOk P w K mg base CX0 2 f fd ["_law_box_here", "_law_tall"] spSpn := by
  refine F.ok scSpn (fun vs H Q E h => ?_) (fun cdv A outer s H vs Q E hr h => ?_)
  · obtain ⟨b, l, tall, rfl, _⟩ := h
    rfl
  · obtain ⟨b, l, tall, rfl, B, k⟩ := h
    have hr1 : Room 1 _ := hr
    refine ⟨_, (pss_cons (ps_if (PW.pt (pw_and (pt_cmpR op_gt (pv 1) pe_int (nomark _)) (pw_and1 (pt_cmpR op_eq (pe_call GT hr1 rfl T.take FT.kp bT .nil pass0 (pa_cons (pv 0) (pa_cons pe_int pa_nil))) pe_int (nomark _))))) (pss_one (ps_ret (pe_op op_add pe_int (pe_call GT hr1 rfl T.take FT.kp bT .nil pass0 (pa_cons (pv 0) (pa_cons (pe_op op_pow pe_int pe_int) pa_nil)))))) pss_nil)
      (pss_one (ps_ret (pe_op op_add pe_int (pe_call GT hr1 rfl T.take FT.kp bT .nil pass0 (pa_cons (pv 0) (pa_cons pe_int pa_nil))))))), ?_⟩
    refine ⟨_, rfl, _, _, rfl, rfl, _, rfl, ite2 (fun _ => ?_) (fun _ => ?_)⟩
    · refine ⟨_, rfl, b, l, _, rfl, B, by decide, by decide, fun c H1 c0 c1 B1 k1 => ⟨rfl, _, rfl, ite2 (fun _ => ?_) (fun _ => ?_)⟩⟩
      · refine ⟨_, rfl, _, _, rfl, rfl, pow_ok (by decide), b, l, _, rfl, B1, by decide, by decide +kernel, fun r H2 r0 r1 B2 k2 => ⟨_, _, rfl, rfl, ?_⟩⟩
        have r1 : r < 10 ^ 12 := r1
        exact k _ _ (by omega) (by omega) B2 fun c n => (k2 c n).trans (k1 c n)
      · refine ⟨_, rfl, b, l, _, rfl, B1, by decide, by decide, fun r H2 r0 r1 B2 k2 => ⟨_, _, rfl, rfl, ?_⟩⟩
        exact k _ _ (by omega) (by omega) B2 fun c n => (k2 c n).trans (k1 c n)
    · refine ⟨_, rfl, b, l, _, rfl, B, by decide, by decide, fun r H2 r0 r1 B2 k2 => ⟨_, _, rfl, rfl, ?_⟩⟩
      exact k _ _ (by omega) (by omega) B2 k2
set_option maxHeartbeats 0 in
theorem ok_tru {f fT : Addr} {fd fdT : FuncData} (F : Fun K "_law_truth" "_law_truth" sTru f fd) (GT : FnOk P w K mg base CX0 1 fT fdT ["_law_box_here", "_law_size"] spTake) (FT : Fun K "_law_take" "_law_take" sTake fT fdT) (bT : Binds K fdT ["_law_box_here", "_law_size"] []) (T : TruTxt mg fT) :
    FnOk P w K mg base CX0 2 f fd ["_law_box_here", "_law_top", "_law_slope", "_law_spans"] (spTru K) := by
  refine F.ok scTru (fun vs H Q E h => ?_) (fun cdv A outer s H vs Q E hr h => ?_)
  · obtain ⟨b, l, sp, tp, sl, spans, rfl, _⟩ := h
    rfl
  · obtain ⟨b, l, sp, tp, sl, spans, rfl, B, hsp, t0, t1, s0, s1, hx, hl, k⟩ := h
    have hr1 : Room 1 _ := hr
    refine ⟨_, (pss_cons (ps_set (i := 4) scTru.nd rfl (Or.inl rfl) (pe_lst (pa_cons (pe_call GT hr1 rfl T.take FT.kp bT .nil pass0 (pa_cons (pv 0) (pa_cons (pe_op op_add (pv 1) pe_int) pa_nil))) pa_nil)))
      (pss_cons (ps_for PassesOwn.never rfl (pi_tup (pv 3)) (pg_name (i := 5) scTru.nd rfl (Or.inl rfl)) (pss_cons (ps_set (i := 6) scTru.nd rfl (Or.inl rfl) (pe_callB (call_max2 rfl) (by rfl) T.b_max (by decide +kernel) (pa_cons pe_int (pa_cons (pe_op op_sub (pe_ix ix_list (pv 4) (pe_un un_neg pe_int) (fun _ _ => rfl)) (pe_op op_mulW (pv 2) (pv 5))) pa_nil))))
      (pss_cons (ps_set (i := 7) scTru.nd rfl (Or.inl rfl) (pe_callB (call_min2 rfl) (by rfl) T.b_min (by decide +kernel) (pa_cons (pe_callTy call_int1 (by rfl) T.b_int (by decide +kernel) (pa_cons (pv 1) pa_nil)) (pa_cons (pe_callTy call_int1 (by rfl) T.b_int (by decide +kernel) (pa_cons (pe_op op_add (pe_ix ix_list (pv 4) (pe_un un_neg pe_int) (fun _ _ => rfl)) (pe_op op_mulW (pv 2) (pv 5))) pa_nil)) pa_nil))))
      (pss_one (ps_expr (pe_bm PySem.F.plainAttrs_list PySem.F.slot_list_append PySem.F.type_list_append mt_append (pv 4) (pa_cons (pe_op op_add (pv 6) (pe_call GT hr1 rfl T.take FT.kp bT .nil pass0 (pa_cons (pv 0) (pa_cons (pe_op op_add (pe_op op_sub (pv 7) (pv 6)) pe_int) pa_nil)))) pa_nil)))))))
      (pss_one (ps_ret (pv 4))))), ?_⟩
    have szf : ∀ {z : Int}, 0 ≤ z → z ≤ 10 ^ 17 → z.natAbs < 2 ^ 8000 := fun {z} a b => Nat.lt_of_le_of_lt (show z.natAbs ≤ 10 ^ 17 by omega) (by decide +kernel)
    have szs : ∀ {z : Int}, 0 ≤ z → z ≤ 10 ^ 16 → Sz z := fun {z} a b => Nat.lt_of_le_of_lt (show z.natAbs ≤ 10 ^ 16 by omega) (by decide +kernel)
    refine ⟨_, rfl, _, rfl, _, _, rfl, rfl, b, l, _, rfl, B, by omega, szf (by omega) (by omega), fun h0 H1 h00 h01 B1 k1 => ⟨by show 1 ≤ sizeLine; decide, fun q hq => ?_⟩⟩
    have nqb := Ne.symm (B1.free hq).1
    have nq0 : H q = none := by rw [← k1 q nqb]; exact hq
    have e1 : upd H1 q (.lst [V.int h0]) q = some (.lst (([] ++ [h0]).map V.int)) := upd_same
    have B2 : Box (upd H1 q (.lst [V.int h0])) b l := B1.at (B1.free hq)
    have s2 : SameB b H (upd H1 q (.lst [V.int h0])) := (SameB.of k1).trans (SameB.of_same (same_new hq))
    generalize upd H1 q (.lst [V.int h0]) = H2 at e1 B2 s2
    clear hq k1 B1
    refine ⟨_, rfl, sp, rfl, ⟨_, sqT_sameB hsp B s2⟩, ?_⟩
    refine for_it (walk_tup (xs := spans.map V.int)) (fun i σ' H' => ∃ (v5 v6 v7 : Option V) (hs : List Int) (a : Int), σ' = [some (.ref b), some (.int tp), some (.int sl), some (.ref sp), some (.ref q), v5, v6, v7] ∧ Fit1 tp sl (spans.take i) (hs ++ [a]) ∧ H' q = some (.lst ((hs ++ [a]).map V.int)) ∧ Box H' b l ∧ SameB b H H')
      ⟨none, none, none, [], h0, rfl, ⟨rfl, fun y hy => by (have := List.mem_singleton.mp hy); omega, fun i a c x z1 z2 z3 => by rw [List.take_zero] at z3; cases z3⟩, e1, B2, s2⟩ (fun i σ' H' _ h => by obtain ⟨_, _, _, _, _, _, _, _, B, s⟩ := h; exact sqT_sameB hsp ‹Box H b l› s) ?_ ?_
    · rintro i x σ' H3 H4 hi ⟨v5, v6, v7, hs, a, rfl, F1, e3, B3, s3⟩ ⟨rfl, hxi⟩
      rw [List.length_map] at hi
      rw [List.getElem?_map, List.getElem?_eq_getElem hi] at hxi
      cases hxi
      obtain ⟨x0, x1⟩ := hx _ (List.getElem_mem hi)
      obtain ⟨a0, a1⟩ := F1.top a (List.mem_append_right _ (List.mem_singleton.mpr rfl))
      have hm : 0 ≤ sl * spans[i] := Int.mul_nonneg s0 (by omega)
      have cm : CMulW sl spans[i] := Sz.mul (szs s0 s1).w (szs (by omega) x1).w
      have el : H4 q = some (.lst (hs.map V.int ++ [V.int a])) := by rw [e3, List.map_append]; rfl
      refine ⟨_, rfl, _, rfl, q, _, _, _, rfl, rfl, SqL.of el, atI_last _ _, _, rfl, _, rfl, _, _, rfl, rfl, cm, _, _, rfl, rfl, _, _, rfl, ?_⟩
      obtain ⟨low, hlow, l0, l1, l2⟩ : ∃ low : Int, (if a - sl * spans[i] > 0 then a - sl * spans[i] else 0) = low ∧ 0 ≤ low ∧ low ≤ a ∧ a - sl * spans[i] ≤ low := ⟨_, rfl, by split <;> omega, by split <;> omega, by split <;> omega⟩
      obtain ⟨hig, hhig, g0, g1, g2⟩ : ∃ hig : Int, (if a + sl * spans[i] < tp then a + sl * spans[i] else tp) = hig ∧ a ≤ hig ∧ hig ≤ tp ∧ hig ≤ a + sl * spans[i] := ⟨_, rfl, by split <;> omega, by split <;> omega, by split <;> omega⟩
      rw [hlow]
      refine ⟨_, rfl, .inl ⟨_, rfl, _, rfl, _, rfl, q, _, _, _, rfl, rfl, SqL.of el, atI_last _ _, _, rfl, _, rfl, _, _, rfl, rfl, cm, _, _, rfl, rfl, .inl ⟨_, rfl, _, _, rfl, ?_⟩⟩⟩
      rw [hhig]
      refine ⟨_, rfl, .inl ⟨rfl, _, SqL.of el⟩, _, rfl, _, rfl, _, rfl, _, rfl, _, _, rfl, rfl, _, _, rfl, rfl, b, l, _, rfl, B3, by omega, szf (by omega) (by omega), fun r H5 r0 r1 B5 k5 => ?_⟩
      have el5 := (k5 q nqb).trans el
      have fl := F1.len
      rw [List.length_append, List.length_take] at fl
      have fl2 : hs.length + 1 = min i spans.length + 1 := fl
      have s5 := s3.trans (SameB.of k5)
      refine ⟨_, _, rfl, rfl, q, _, _, rfl, rfl, el5, small1000 (by rw [List.length_append, List.length_map]; show hs.length + 1 ≤ 1000; omega), _, _, _, hs ++ [a], low + r, rfl, ?_, ?_, B5.at (B.free nq0), ?_⟩
      · rw [List.take_succ, List.getElem?_eq_getElem hi]
        exact F1.snoc (by omega) (by omega) (by omega) (by omega)
      · rw [upd_same, List.map_append, List.map_append]
        rfl
      · intro c o nc e
        rw [upd_ne (fun z => by rw [z, nq0] at e; cases e)]
        exact s5 c o nc e
    rintro σ' H3 ⟨v5, v6, v7, hs, a, rfl, F1, e3, B3, s3⟩
    rw [List.length_map, List.take_length] at F1
    exact ⟨_, rfl, k q _ _ nq0 F1 e3 B3 s3⟩
end
end Law

/-! The law's sites. -/
namespace Law
open PySem PySem.Spec PyProof.Rows L2 Sup
abbrev sSpc : Stmt := top 44
/-- the height of a node; the ground's is 0 -/
def pot (hs : List Int) (a : Int) : Int := if a < 0 then 0 else hs.getD a.toNat 0
theorem pot_nat (hs : List Int) (i : Nat) : pot hs (i : Int) = hs.getD i 0 := by
  unfold pot
  rw [if_neg (by omega)]
  rfl
theorem pot_app {hs hs' : List Int} {a : Int} (h : a < hs.length) : pot (hs ++ hs') a = pot hs a := by
  unfold pot
  split
  · rfl
  · rw [List.getD_eq_getElem?_getD, List.getD_eq_getElem?_getD, List.getElem?_append_left (by omega)]
/-- heights that all walls allow -/
structure Fits (ws : List Wal) (hs : List Int) : Prop where
  len : hs.length = places ws
  top : ∀ (i : Nat) (t h : Int), (topsOf ws)[i]? = some t → hs[i]? = some h → 0 ≤ h ∧ h ≤ t
  slope : ∀ e ∈ slopeN 0 ws, pot hs e.2.1 - pot hs e.1 ≤ e.2.2
theorem Fits.snoc {ws : List Wal} {hs hs' : List Int} {w : Wal} (h : Fits ws hs) (f : Fit1 w.2.1 w.2.2.1 w.2.2.2 hs') : Fits (ws ++ [w]) (hs ++ hs') := by
  have hl := h.len
  have fl := f.len
  have wm : w.many = w.2.2.2.length + 1 := rfl
  have tl : (topsOf ws).length = places ws := (tops_len ws).trans (spots_places ws)
  refine ⟨by rw [List.length_append, places_snoc, hl, fl, wm], fun i t x e1 e2 => ?_, fun e he => ?_⟩
  · have et : topsOf (ws ++ [w]) = topsOf ws ++ topsW w := by
      unfold topsOf
      rw [List.flatMap_append, List.flatMap_singleton]
    rw [et] at e1
    by_cases c : i < hs.length
    · rw [List.getElem?_append_left (by omega)] at e1
      rw [List.getElem?_append_left c] at e2
      exact h.top i t x e1 e2
    · rw [List.getElem?_append_right (by omega)] at e1
      rw [List.getElem?_append_right (by omega)] at e2
      have := List.eq_of_mem_replicate (List.mem_of_getElem? e1)
      subst this
      exact f.top x (List.mem_of_getElem? e2)
  · rw [slopeN_snoc, Int.zero_add] at he
    rcases List.mem_append.mp he with he | he
    · obtain ⟨a, v, x, _, _, p1, p2, q⟩ := slope_mem ws 0 he
      rw [Int.zero_add] at p2
      have s := h.slope e he
      rw [pot_app (by rcases q with rfl | rfl <;> (simp only []; omega)), pot_app (by rcases q with rfl | rfl <;> (simp only []; omega))]
      exact s
    · obtain ⟨i, x, e1, q⟩ := span_mem _ _ _ he
      have il := (List.getElem?_eq_some_iff.mp e1).1
      obtain ⟨u, hu⟩ : ∃ u, hs'[i]? = some u := ⟨_, List.getElem?_eq_getElem (by omega)⟩
      obtain ⟨v, hv⟩ : ∃ v, hs'[i + 1]? = some v := ⟨_, List.getElem?_eq_getElem (by omega)⟩
      obtain ⟨g1, g2⟩ := f.slope i u v x hu hv e1
      have p1 : pot (hs ++ hs') ((places ws : Nat) + (i : Nat) : Int) = u := by
        rw [show (((places ws : Nat) : Int) + (i : Nat)) = ((hs.length + i : Nat) : Int) by omega, pot_nat, List.getD_eq_getElem?_getD, List.getElem?_append_right (by omega), show hs.length + i - hs.length = i by omega, hu]
        rfl
      have p2 : pot (hs ++ hs') ((places ws : Nat) + (i : Nat) + 1 : Int) = v := by
        rw [show (((places ws : Nat) : Int) + (i : Nat) + 1) = ((hs.length + (i + 1) : Nat) : Int) by omega, pot_nat, List.getD_eq_getElem?_getD, List.getElem?_append_right (by omega), show hs.length + (i + 1) - hs.length = i + 1 by omega, hv]
        rfl
      rcases q with rfl | rfl
      · simp only []
        rw [p1, p2]
        exact g1
      · simp only []
        rw [p1, p2]
        exact g2
def names3 : List Str := ["east", "north", "west"]
structure Spec (tall many : Int) (ws : List Wal) (hs : List Int) : Prop where
  names : ws.map (·.1) = names3.take ws.length
  one : 1 ≤ places ws
  most : ((places ws : Nat) : Int) ≤ many
  num : ∀ w ∈ ws, (0 ≤ w.2.1 ∧ w.2.1 ≤ tall) ∧ (0 ≤ w.2.2.1 ∧ w.2.2.1 ≤ 10 ^ 16) ∧ ∀ x ∈ w.2.2.2, 1 ≤ x ∧ x ≤ 10 ^ 12
  fits : Fits ws hs
def spSpc (K : PySem.W.Frag) : Sp := fun vs H Q _ => ∃ (b l : Addr) (many tall : Int), vs = [.ref b, .int many, .int tall] ∧ Box H b l ∧ 1 ≤ many ∧ many ≤ 20 ∧ 0 ≤ tall ∧ tall ≤ 10 ^ 15 ∧
  ∀ (u p t : Addr) (ws : List Wal) (hs : List Int) (H' : Hp), H' u = some (.tup [.ref p, .ref t]) → H p = none → H t = none → p ≠ t → WalsAt K H' p ws → H' t = some (.lst (hs.map V.int)) → Box H' b l → SameB b H H' → Spec tall many ws hs → Q (.ref u) H'
/-- the world while walls are drawn -/
structure SW (K : PySem.W.Frag) (H0 H : Hp) (b l p lq t : Addr) (ws : List Wal) (hs : List Int) : Prop where
  B : Box H b l
  W : WalsAt K H p ws
  T : H t = some (.lst (hs.map V.int))
  L : H lq = some (.lst (names3.map V.str))
  S : SameB b H0 H
  np : H0 p = none
  nt : H0 t = none
  fp : b ≠ p ∧ l ≠ p
  npt : t ≠ p
section
variable {K : PySem.W.Frag} {H0 H H' : Hp} {b l p lq t : Addr} {ws : List Wal} {hs : List Int}
theorem SW.same (h : SW K H0 H b l p lq t ws hs) (s : Same H H') : SW K H0 H' b l p lq t ws hs := ⟨h.B.same s, h.W.same s, s _ _ h.T, s _ _ h.L, h.S.trans (SameB.of_same s), h.np, h.nt, h.fp, h.npt⟩
theorem SW.nl (h : SW K H0 H b l p lq t ws hs) : lq ≠ b := fun z => by
  obtain ⟨_, _, _, _, q, _⟩ := h.B
  have e := h.L
  rw [z, q] at e
  have e := HO.lst.inj (Option.some.inj e)
  injection e with e _
  cases e
theorem Box.neZ {H : Hp} {b l p : Addr} {ns : List Int} (B : Box H b l) (h : H p = some (.lst (ns.map V.int))) : p ≠ b := fun z => by
  obtain ⟨_, _, _, _, q, _⟩ := B
  rw [z, q] at h
  have e := HO.lst.inj (Option.some.inj h)
  match ns, e with
  | [], e => cases e
  | _ :: _, e =>
    rw [List.map_cons] at e
    injection e with e _
    cases e
theorem SW.draw (h : SW K H0 H b l p lq t ws hs) (B : Box H' b l) (s : SameB b H H') : SW K H0 H' b l p lq t ws hs := ⟨B, h.W.sameB h.B s, s _ _ (h.B.neZ h.T) h.T, s _ _ h.nl h.L, h.S.trans s, h.np, h.nt, h.fp, h.npt⟩
theorem SW.put (h : SW K H0 H b l p lq t ws hs) {q sp : Addr} {w : Wal} (hq : H q = none) (hs' : SqT K H sp (w.2.2.2.map V.int)) (hl : ws.length ≤ 900) :
    ∃ acc, upd H q (.tup [.str w.1, .int w.2.1, .int w.2.2.1, .ref sp]) p = some (.lst acc) ∧ acc.length < sizeLine ∧ SW K H0 (upd (upd H q (.tup [.str w.1, .int w.2.1, .int w.2.2.1, .ref sp])) p (.lst (acc ++ [.ref q]))) b l p lq t (ws ++ [w]) hs := by
  have s := same_new (o := .tup [.str w.1, .int w.2.1, .int w.2.2.1, .ref sp]) hq
  obtain ⟨acc, a1, a2, a3⟩ := h.W.push hq hs' hl
  have g := h.same s
  have nlp : lq ≠ p := fun z => by
    obtain ⟨ts, e1, _⟩ := g.W
    have e := g.L
    rw [z, e1] at e
    have e := HO.lst.inj (Option.some.inj e)
    cases ts with
    | nil => cases e
    | cons a r => injection e with e _; cases e
  exact ⟨acc, a1, a2, ⟨g.B.at h.fp, a3, by rw [upd_ne h.npt]; exact g.T, by rw [upd_ne nlp]; exact g.L, fun c o nc e => by
    rw [upd_ne (fun z => by rw [z, h.np] at e; cases e)]
    exact g.S c o nc e, h.np, h.nt, h.fp, h.npt⟩⟩
end
theorem back_none {b d : Addr} {H H' : Hp} (S : SameB b H H') (h : H' d = none) (n : d ≠ b) : H d = none := by
  cases e : H d with
  | none => rfl
  | some o => rw [S _ _ n e] at h; cases h
theorem SW.new {K : PySem.W.Frag} {H0 H : Hp} {b l p lq t t2 : Addr} {ws : List Wal} {hs hs2 : List Int} (h : SW K H0 H b l p lq t ws hs) (h2 : H t2 = none) : SW K H0 (upd H t2 (.lst (hs2.map V.int))) b l p lq t2 ws hs2 := by
  have s := same_new (o := .lst (hs2.map V.int)) h2
  have g := h.same s
  exact ⟨g.B, g.W, upd_same, g.L, g.S, g.np, back_none h.S h2 (Ne.symm (h.B.free h2).1), g.fp, fun z => by
    obtain ⟨_, q, _⟩ := h.W
    rw [z, q] at h2
    cases h2⟩
structure SpcTxt (mg : Str → Option Value) (fT fTr fSn : Addr) : Prop where
  take : mg "_law_take" = some (.ref fT)
  truth : mg "_law_truth" = some (.ref fTr)
  span : mg "_law_span" = some (.ref fSn)
  b_range : mg "range" = none
  b_tuple : mg "tuple" = none
section
variable {P : Program} {w : World} {K : PySem.W.Frag} {mg : Str → Option Value} {base : Heap}
theorem scSpc : FnScope ["_law_box_here", "_law_many", "_law_tall", "_law_shuts", "_law_truth_here", "_law_left", "_law_name", "_law_size", "_law_top", "_law_slope", "_law_spans", "_law_k"] ["_law_box_here", "_law_many", "_law_tall"] (defScope sSpc) := ⟨rfl, rfl, rfl, by decide +kernel, rfl, by decide +kernel, by decide +kernel⟩
set_option maxHeartbeats 0 in
theorem ok_spc {f fT fTr fSn : Addr} {fd fdT fdTr fdSn : FuncData} (F : Fun K "_law_spec" "_law_spec" sSpc f fd) (GT : FnOk P w K mg base CX0 1 fT fdT ["_law_box_here", "_law_size"] spTake) (FT : Fun K "_law_take" "_law_take" sTake fT fdT) (bT : Binds K fdT ["_law_box_here", "_law_size"] [])
    (GTr : FnOk P w K mg base CX0 2 fTr fdTr ["_law_box_here", "_law_top", "_law_slope", "_law_spans"] (spTru K)) (FTr : Fun K "_law_truth" "_law_truth" sTru fTr fdTr) (bTr : Binds K fdTr ["_law_box_here", "_law_top", "_law_slope", "_law_spans"] [])
    (GSn : FnOk P w K mg base CX0 2 fSn fdSn ["_law_box_here", "_law_tall"] spSpn) (FSn : Fun K "_law_span" "_law_span" sSpn fSn fdSn) (bSn : Binds K fdSn ["_law_box_here", "_law_tall"] []) (T : SpcTxt mg fT fTr fSn) :
    FnOk P w K mg base CX0 3 f fd ["_law_box_here", "_law_many", "_law_tall"] (spSpc K) := by
  refine F.ok scSpc (fun vs H Q E h => ?_) (fun cdv A outer s H vs Q E hr h => ?_)
  · obtain ⟨b, l, many, tall, rfl, _⟩ := h
    rfl
  · obtain ⟨b, l, many, tall, rfl, B, m1, m2, t0, t1, k⟩ := h
    have hr2 : Room 2 _ := hr
    have hr1 : Room 1 _ := hr.mono (by decide)
    refine ⟨_, (pss_cons (ps_set (i := 3) scSpc.nd rfl (Or.inl rfl) (pe_lst pa_nil))
      (pss_cons (ps_set (i := 4) scSpc.nd rfl (Or.inl rfl) (pe_lst pa_nil))
      (pss_cons (ps_set (i := 5) scSpc.nd rfl (Or.inl rfl) (pe_op op_add pe_int (pe_call GT hr1 rfl T.take FT.kp bT .nil pass0 (pa_cons (pv 0) (pa_cons (pv 1) pa_nil)))))
      (pss_cons (ps_for PassesOwn.never rfl (pi_list (pe_lst (pa_cons pe_str (pa_cons pe_str (pa_cons pe_str pa_nil))))) (pg_name (i := 6) scSpc.nd rfl (Or.inl rfl)) (pss_cons (ps_if (pt_cmpR op_lt (pv 5) pe_int (nomark _)) (pss_one ps_break) pss_nil)
      (pss_cons (ps_set (i := 7) scSpc.nd rfl (Or.inl rfl) (pe_op op_add pe_int (pe_call GT hr1 rfl T.take FT.kp bT .nil pass0 (pa_cons (pv 0) (pa_cons (pv 5) pa_nil)))))
      (C8.pss_cut (ps_if (pt_cmpR op_eq (pv 6) pe_str (nomark _)) (pss_one (ps_set (i := 7) scSpc.nd rfl (Or.inl rfl) (pv 5))) pss_nil)
      (pss_cons (ps_set (i := 8) scSpc.nd rfl (Or.inl rfl) (pe_call GT hr1 rfl T.take FT.kp bT .nil pass0 (pa_cons (pv 0) (pa_cons (pe_op op_add (pv 2) pe_int) pa_nil))))
      (pss_cons (ps_set (i := 9) scSpc.nd rfl (Or.inl rfl) (pe_call GT hr1 rfl T.take FT.kp bT .nil pass0 (pa_cons (pv 0) (pa_cons pe_int pa_nil))))
      (C8.pss_cut (ps_if (pt_cmpR op_eq (pe_call GT hr1 rfl T.take FT.kp bT .nil pass0 (pa_cons (pv 0) (pa_cons pe_int pa_nil))) pe_int (nomark _)) (pss_one (ps_set (i := 9) scSpc.nd rfl (Or.inl rfl) (pe_call GT hr1 rfl T.take FT.kp bT .nil pass0 (pa_cons (pv 0) (pa_cons (pe_op op_add (pv 2) pe_int) pa_nil))))) pss_nil)
      (pss_cons (ps_set (i := 10) scSpc.nd rfl (Or.inl rfl) (pe_tupleOf (by rfl) T.b_tuple (pe_lc (own := [("_law_k", 11)]) (g := gName 11) (tt := tYes) (by rfl) scSpc.nd (pi_range1 (by rfl) T.b_range (pa_cons (pe_op op_sub (pv 7) pe_int) pa_nil)) (blkOk_by (own := [("_law_k", 11)]) (N := ["_law_box_here", "_law_many", "_law_tall", "_law_shuts", "_law_truth_here", "_law_left", "_law_name", "_law_size", "_law_top", "_law_slope", "_law_spans", "_law_k"]) (sc := defScope sSpc) (by decide +kernel)) (fun _ _ _ _ _ => pg_name (i := 11) scSpc.nd rfl (Or.inl rfl)) (fun _ _ _ _ _ => pts_nil) (fun _ _ _ _ _ => (pe_call GSn hr2 rfl T.span FSn.kp bSn .nil pass0 (pa_cons (pv 0) (pa_cons (pv 2) pa_nil)))))))
      (pss_cons (ps_expr (pe_bm PySem.F.plainAttrs_list PySem.F.slot_list_append PySem.F.type_list_append mt_append (pv 3) (pa_cons (pe_tup (pa_cons (pv 6) (pa_cons (pv 8) (pa_cons (pv 9) (pa_cons (pv 10) pa_nil))))) pa_nil)))
      (pss_cons (ps_set (i := 4) scSpc.nd rfl (Or.inl rfl) (pe_op op_cat (pv 4) (pe_call GTr hr2 rfl T.truth FTr.kp bTr .nil pass0 (pa_cons (pv 0) (pa_cons (pv 8) (pa_cons (pv 9) (pa_cons (pv 10) pa_nil)))))))
      (pss_one (ps_set (i := 5) scSpc.nd rfl (Or.inl rfl) (pe_op op_sub (pv 5) (pv 7))))))))))))))
      (pss_one (ps_ret (pe_tup (pa_cons (pv 3) (pa_cons (pv 4) pa_nil))))))))), ?_⟩
    have szf : ∀ {z : Int}, 0 ≤ z → z ≤ 10 ^ 17 → z.natAbs < 2 ^ 8000 := fun {z} a b => Nat.lt_of_le_of_lt (show z.natAbs ≤ 10 ^ 17 by omega) (by decide +kernel)
    refine ⟨by show 0 ≤ sizeLine; decide, fun p hp => ⟨by show 0 ≤ sizeLine; decide, fun t ht => ?_⟩⟩
    have s1 := same_new (o := .lst []) hp
    have s2 := same_new (o := .lst []) ht
    have ep := s2 _ _ (upd_same (H := H) (a := p) (o := .lst []))
    have et : upd (upd H p (.lst [])) t (.lst []) t = some (.lst []) := upd_same
    have ntp : t ≠ p := Ne.symm (ne_of_none (upd_same (H := H) (a := p) (o := .lst [])) ht)
    have nt0 : H t = none := by
      cases e : H t with
      | none => rfl
      | some o => rw [s1 _ _ e] at ht; cases ht
    have S12 := same_tr s1 s2
    have B1 := B.same S12
    generalize upd (upd H p (.lst [])) t (.lst []) = H1 at ep et S12 B1
    refine ⟨_, rfl, _, rfl, b, l, _, rfl, B1, by omega, szf (by omega) (by omega), fun n H2 n0 n1 B2 k2 => ⟨_, _, rfl, rfl, ?_⟩⟩
    refine ⟨by show 3 ≤ sizeLine; decide, fun lq hlq => ?_⟩
    have fp := B.free hp
    have W0 : SW K H (upd H2 lq (.lst [V.str "east", V.str "north", V.str "west"])) b l p lq t [] [] := by
      have sq := same_new (o := .lst [V.str "east", V.str "north", V.str "west"]) hlq
      exact ⟨B2.same sq, ⟨[], sq _ _ ((k2 p (Ne.symm fp.1)).trans ep), rfl, fun i t e z => by cases z⟩, sq _ _ ((k2 t (Ne.symm (B.free nt0).1)).trans et), upd_same, ((SameB.of_same S12).trans (SameB.of k2)).trans (SameB.of_same sq), hp, nt0, fp, ntp⟩
    have fin : ∀ {H' : Hp} {t' : Addr} {ws : List Wal} {hs : List Int}, SW K H H' b l p lq t' ws hs → Spec tall many ws hs → ∀ u, H' u = none → Q (.ref u) (upd H' u (.tup [.ref p, .ref t'])) := fun W S u hu =>
      have s := same_new hu
      k u p _ _ _ _ upd_same W.np W.nt (Ne.symm W.npt) (W.W.same s) (s _ _ W.T) (W.B.same s) (W.S.trans (SameB.of_same s)) S
    generalize upd H2 lq (.lst [V.str "east", V.str "north", V.str "west"]) = H3 at W0
    clear hlq k2 B2 S12 B1 et ep s1 s2
    refine ⟨lq, rfl, ⟨_, SqL.of W0.L⟩, ?_⟩
    refine for_it (walk_list (xs := names3.map V.str)) (fun i σ' H' => ∃ (v6 v7 v8 v9 v10 : Option V) (t' : Addr) (left : Int) (ws : List Wal) (hs : List Int), σ' = [some (.ref b), some (.int many), some (.int tall), some (.ref p), some (.ref t'), some (.int left), v6, v7, v8, v9, v10, none] ∧ SW K H H' b l p lq t' ws hs ∧ ws.length = i ∧ 0 ≤ left ∧ left + (places ws : Nat) = 1 + n ∧ (i = 0 ∨ 1 ≤ places ws) ∧
        ws.map (·.1) = names3.take ws.length ∧ (∀ w ∈ ws, (0 ≤ w.2.1 ∧ w.2.1 ≤ tall) ∧ (0 ≤ w.2.2.1 ∧ w.2.2.1 ≤ 10 ^ 16) ∧ ∀ x ∈ w.2.2.2, 1 ≤ x ∧ x ≤ 10 ^ 12) ∧ Fits ws hs)
      ⟨none, none, none, none, none, t, 1 + n, [], [], rfl, W0, rfl, by omega, by show 1 + n + 0 = 1 + n; omega, .inl rfl, rfl, (fun _ h => by cases h), ⟨rfl, (fun i t h e _ => by cases e), (fun e he => by cases he)⟩⟩
      (fun i σ' H' _ h => by obtain ⟨_, _, _, _, _, _, _, _, _, _, W, _⟩ := h; exact SqL.of W.L) ?_ ?_
    · rintro i x σ' H4 H5 hi ⟨v6, v7, v8, v9, v10, t', left, ws, hs, rfl, W, wl, l0, lp, ip, nm, nu, F⟩ ⟨rfl, hx⟩
      obtain ⟨y, hy⟩ : ∃ y, names3[i]? = some y := ⟨_, List.getElem?_eq_getElem (by rw [List.length_map] at hi; exact hi)⟩
      rw [List.getElem?_map, hy] at hx
      cases hx
      refine ⟨_, rfl, _, _, rfl, rfl, _, rfl, ite2 (fun c => ?_) (fun c => ?_)⟩
      · have c : left < 1 := of_decide_eq_true c
        refine ⟨_, rfl, _, rfl, by show 2 ≤ sizeLine; decide, fin W ⟨nm, ?_, by omega, nu, F⟩⟩
        rcases ip with rfl | z
        · have : ws = [] := List.length_eq_zero_iff.mp wl
          subst this
          have : ((places [] : Nat) : Int) = 0 := rfl
          omega
        · exact z
      have c : 1 ≤ left := by
        have : ¬ left < 1 := fun z => c (decide_eq_true z)
        omega
      have n3 : ws.length < 3 := by rw [wl]; exact hi
      refine ⟨_, rfl, _, rfl, b, l, _, rfl, W.B, by omega, szf (by omega) (by omega), fun r H6 r0 r1 B6 k6 => ⟨_, _, rfl, rfl, ?_⟩⟩
      have W6 := W.draw B6 (SameB.of k6)
      refine ⟨fun σ2 H' => ∃ size : Int, σ2 = [some (.ref b), some (.int many), some (.int tall), some (.ref p), some (.ref t'), some (.int left), some (.str y), some (.int size), v8, v9, v10, none] ∧ 1 ≤ size ∧ size ≤ left ∧ SW K H H' b l p lq t' ws hs, ?_, ?_⟩
      · exact ⟨_, rfl, rfl, _, rfl, ite2 (fun _ => ⟨_, rfl, left, rfl, by omega, by omega, W6⟩) (fun _ => ⟨1 + r, rfl, by omega, by omega, W6⟩)⟩
      clear W W6 k6 B6
      rintro σ2 H6 ⟨size, rfl, z1, z2, W⟩
      refine ⟨_, rfl, _, rfl, _, _, rfl, rfl, b, l, _, rfl, W.B, by omega, szf (by omega) (by omega), fun tp H7 p0 p1 B7 k7 => ?_⟩
      have W7 := W.draw B7 (SameB.of k7)
      refine ⟨_, rfl, b, l, _, rfl, W7.B, by decide, by decide, fun sl0 H8 q0 q1 B8 k8 => ?_⟩
      have W8 := W7.draw B8 (SameB.of k8)
      refine ⟨fun σ2 H' => ∃ sl : Int, σ2 = [some (.ref b), some (.int many), some (.int tall), some (.ref p), some (.ref t'), some (.int left), some (.str y), some (.int size), some (.int tp), some (.int sl), v10, none] ∧ 0 ≤ sl ∧ sl ≤ 10 ^ 16 ∧ SW K H H' b l p lq t' ws hs, ?_, ?_⟩
      · refine ⟨_, rfl, b, l, _, rfl, W8.B, by decide, by decide, fun c H9 c0 c1 B9 k9 => ?_⟩
        have W9 := W8.draw B9 (SameB.of k9)
        refine ⟨rfl, _, rfl, ite2 (fun _ => ⟨_, rfl, _, rfl, _, _, rfl, rfl, b, l, _, rfl, W9.B, by omega, szf (by omega) (by omega), fun sl H10 s0 s1 B10 k10 => ?_⟩) (fun _ => ⟨sl0, rfl, q0, by omega, W9⟩)⟩
        exact ⟨sl, rfl, s0, by omega, W9.draw B10 (SameB.of k10)⟩
      clear W W7 W8 k7 B7 k8 B8
      rintro σ2 H8 ⟨sl, rfl, s0, s1, W⟩
      refine ⟨_, rfl, _, _, rfl, rfl, _, rfl, by omega, by omega, fun D3 hD3 => ?_⟩
      have nDb3 : D3 ≠ b := Ne.symm (W.B.free hD3).1
      refine lc_range (lo := 0) (n := (size - 1).toNat) (fun j H' => ∃ xs : List Int, H' D3 = some (.lst (xs.map V.int)) ∧ xs.length = j ∧ (∀ x ∈ xs, 1 ≤ x ∧ x ≤ 10 ^ 12) ∧ Box H' b l ∧ SameB b H8 H')
        ⟨[], upd_same, rfl, (fun _ h => nomatch h), W.B.at (W.B.free hD3), fun c o nc e => same_new hD3 _ _ e⟩ ?_ ?_
      · rintro j H11 hj ⟨xs, y1, y2, y3, B11, s11⟩
        refine ⟨rfl, _, rfl, _, rfl, b, l, _, rfl, B11, fun r H12 r0 r1 B12 k12 => ?_⟩
        refine ⟨_, (k12 D3 nDb3).trans y1, small1000 (by rw [List.length_map]; omega), xs ++ [r], ?_, by rw [List.length_append, y2]; rfl, fun y hy => ?_, ?_, ?_⟩
        · rw [upd_same, List.map_append]
          rfl
        · rcases List.mem_append.mp hy with hy | hy
          · exact y3 y hy
          · rw [List.mem_singleton] at hy
            omega
        · refine B12.keep fun d hd => upd_ne ?_
          rcases hd with rfl | rfl
          · exact Ne.symm nDb3
          · exact (W.B.free hD3).2
        · intro d o nd e
          rw [upd_ne (ne_of_none e hD3), k12 d nd]
          exact s11 d o nd e
      rintro H11 ⟨xs, y1, y2, y3, B11, s11⟩
      have W11 := W.draw B11 s11
      refine .inl ⟨D3, _, rfl, SqL.of y1, fun sp hsp => ?_⟩
      have s12 := same_new (o := .tup (xs.map V.int)) hsp
      have e12 : upd H11 sp (.tup (xs.map V.int)) sp = some (.tup (xs.map V.int)) := upd_same
      have W12 := W11.same s12
      generalize upd H11 sp (.tup (xs.map V.int)) = H12 at e12 W12
      clear W11 s11 B11 y1 hD3 s12 hsp W
      obtain ⟨zs, z3⟩ : ∃ zs, H12 p = some (.lst zs) := by
        obtain ⟨ts, a, _⟩ := W12.W
        exact ⟨_, a⟩
      refine ⟨_, rfl, .inl ⟨rfl, _, SqL.of z3⟩, _, rfl, _, rfl, _, rfl, _, rfl, by show 4 ≤ sizeLine; decide, fun t2 ht2 => ?_⟩
      obtain ⟨acc, a1, a2, W13⟩ := W12.put (w := (y, tp, sl, xs)) ht2 (SqT.of e12) (by omega)
      refine ⟨p, acc, _, rfl, rfl, a1, a2, ?_⟩
      have e13 : (upd (upd H12 t2 (.tup [.str y, .int tp, .int sl, .ref sp])) p (.lst (acc ++ [.ref t2]))) sp = some (.tup (xs.map V.int)) := by
        rw [upd_ne (fun z => by rw [z, z3] at e12; cases e12), upd_ne (ne_of_none e12 ht2)]
        exact e12
      have W13 : SW K H (upd (upd H12 t2 (.tup [.str y, .int tp, .int sl, .ref sp])) p (.lst (acc ++ [.ref t2]))) b l p lq t' (ws ++ [(y, tp, sl, xs)]) hs := W13
      generalize upd (upd H12 t2 (.tup [.str y, .int tp, .int sl, .ref sp])) p (.lst (acc ++ [.ref t2])) = H13 at e13 W13
      clear a1 a2 z3 e12 ht2 W12
      refine ⟨_, rfl, _, rfl, _, rfl, _, rfl, _, rfl, b, l, sp, _, _, _, rfl, W13.B, SqT.of e13, p0, by omega, s0, s1, fun x hx => ⟨(y3 x hx).1, by have := (y3 x hx).2; omega⟩, by omega, fun q hs2 H14 nq F1 e14 B14 S14 => ?_⟩
      have W14 := W13.draw B14 S14
      have hl := F.len
      have fl := F1.len
      have pm : (places (ws ++ [(y, tp, sl, xs)]) : Nat) = places ws + (xs.length + 1) := by rw [places_snoc]; rfl
      refine ⟨t', q, _, _, rfl, rfl, W14.T, e14, Nat.le_of_lt (small1000 (by rw [List.length_map, List.length_map]; omega)), fun t2 ht2 => ?_⟩
      have W15 := W14.new (hs2 := hs ++ hs2) ht2
      rw [List.map_append] at W15
      refine ⟨_, rfl, _, rfl, _, _, rfl, rfl, _, _, _, _, _, t2, left - size, ws ++ [(y, tp, sl, xs)], hs ++ hs2, rfl, W15, by rw [List.length_append, wl]; rfl, by omega, by rw [pm]; omega, .inr (by rw [pm]; omega), ?_, fun v hv => ?_, F.snoc F1⟩
      · rw [List.map_append, nm, List.length_append, wl]
        show _ = names3.take (i + 1)
        rw [List.take_succ, hy]
        rfl
      · rcases List.mem_append.mp hv with hv | hv
        · exact nu v hv
        · rw [List.mem_singleton] at hv
          subst hv
          exact ⟨⟨p0, by (show tp ≤ tall); omega⟩, ⟨s0, s1⟩, y3⟩
    rintro σ' H4 ⟨v6, v7, v8, v9, v10, t', left, ws, hs, rfl, W, wl, l0, lp, ip, nm, nu, F⟩
    exact ⟨_, rfl, _, rfl, by show 2 ≤ sizeLine; decide, fin W ⟨nm, ip.resolve_left (by decide), by omega, nu, F⟩⟩
end
end Law

/-! The law's links and steps. -/
namespace Law
open PySem PySem.Spec PyProof.Rows L2 Sup
abbrev sLkL : Stmt := top 45
abbrev sStp : Stmt := top 49
theorem sqT_lst {K : PySem.W.Frag} {H : Hp} {p a : Addr} {ys zs xs : List V} (hp : H p = some (.lst ys)) (h : SqT K H a xs) : SqT K (upd H p (.lst zs)) a xs := by
  rcases h with (h | ⟨o, h⟩) | h
  · exact .inl (.inl (by rw [upd_ne (fun z => by rw [z, hp] at h; cases h)]; exact h))
  · exact .inl (.inr ⟨o, by rw [upd_ne (fun z => by rw [z, hp] at h; cases h)]; exact h⟩)
  · exact .inr h
theorem LnksAt.sameB {K : PySem.W.Frag} {H H' : Hp} {b l p : Addr} {ls : List Lnk} (h : LnksAt K H p ls) (B : Box H b l) (s : SameB b H H') : LnksAt K H' p ls := by
  obtain ⟨ts, h1, h2, h3⟩ := h
  exact ⟨ts, s _ _ (B.neL3 h1) h1, h2, fun i t w e1 e2 => sqT_sameB (h3 i t w e1 e2) B s⟩
/-- a link that the heights keep -/
structure LinkOk (hs : List Int) (x : Lnk) : Prop where
  f : 0 ≤ x.1 ∧ x.1 < hs.length
  s : 0 ≤ x.2.1 ∧ x.2.1 < hs.length
  ne : x.2.1 ≠ x.1
  lo : x.2.2.1 ≤ pot hs x.2.1 - pot hs x.1
  hi : pot hs x.2.1 - pot hs x.1 ≤ x.2.2.2
def spLkL (K : PySem.W.Frag) : Sp := fun vs H Q _ => ∃ (b l t : Addr) (hs : List Int) (room : Int), vs = [.ref b, .ref t, .int room] ∧ Box H b l ∧ H t = some (.lst (hs.map V.int)) ∧ 1 ≤ hs.length ∧ hs.length ≤ 100 ∧ 1 ≤ room ∧ room ≤ 10 ^ 15 ∧
  ∀ (q : Addr) (ls : List Lnk) (H' : Hp), H q = none → LnksAt K H' q ls → ls.length ≤ 2 → (∀ x ∈ ls, LinkOk hs x) → Box H' b l → SameB b H H' → Q (.ref q) H'
def stepsW : Int → List Wal → List Edge
  | _, [] => []
  | p, w :: ws => (groundN p (topsW w) ++ spanN w.2.2.1 p w.2.2.2) ++ stepsW (p + w.many) ws
def stepsOf (ws : List Wal) (ls : List Lnk) : List Edge := stepsW 0 ws ++ ls.flatMap linkE
theorem stepsW_snoc : ∀ (p : Int) (l : List Wal) (w : Wal), stepsW p (l ++ [w]) = stepsW p l ++ (groundN (p + places l) (topsW w) ++ spanN w.2.2.1 (p + places l) w.2.2.2)
  | p, [], w => by
    show (groundN p (topsW w) ++ spanN w.2.2.1 p w.2.2.2) ++ [] = [] ++ (groundN (p + (0 : Nat)) (topsW w) ++ spanN w.2.2.1 (p + (0 : Nat)) w.2.2.2)
    rw [List.append_nil, List.nil_append, show p + ((0 : Nat) : Int) = p by omega]
  | p, v :: l, w => by
    have ih := stepsW_snoc (p + v.many) l w
    show (groundN p (topsW v) ++ spanN v.2.2.1 p v.2.2.2) ++ stepsW (p + v.many) (l ++ [w]) = _
    rw [ih, show p + (v.many : Nat) + (places l : Nat) = p + ((places (v :: l) : Nat) : Int) by show _ = p + ((v.many + places l : Nat) : Int); omega, ← List.append_assoc]
    rfl
theorem stepsW_len : ∀ (p : Int) (l : List Wal), (stepsW p l).length ≤ 4 * places l
  | _, [] => Nat.zero_le _
  | p, v :: l => by
    have ih := stepsW_len (p + v.many) l
    show ((groundN p (topsW v) ++ spanN v.2.2.1 p v.2.2.2) ++ stepsW (p + v.many) l).length ≤ 4 * (v.many + places l)
    rw [List.length_append, List.length_append, groundN_len, spanN_len]
    have : (topsW v).length = v.many := List.length_replicate
    have : v.many = v.2.2.2.length + 1 := rfl
    omega
theorem groundN_app : ∀ (p : Int) (xs ys : List Int), groundN p (xs ++ ys) = groundN p xs ++ groundN (p + xs.length) ys
  | p, [], ys => by
    show groundN p ys = [] ++ groundN (p + (0 : Nat)) ys
    rw [List.nil_append, show p + ((0 : Nat) : Int) = p by omega]
  | p, x :: xs, ys => by
    have ih := groundN_app (p + 1) xs ys
    show groundE p x ++ groundN (p + 1) (xs ++ ys) = groundE p x ++ groundN (p + 1) xs ++ _
    rw [ih, ← List.append_assoc, show p + 1 + (xs.length : Int) = p + ((x :: xs).length : Int) by rw [List.length_cons]; omega]
theorem steps_mem : ∀ (p : Int) (ws : List Wal) {e : Edge}, e ∈ stepsW p ws ↔ e ∈ groundN p (topsOf ws) ∨ e ∈ slopeN p ws
  | p, [], e => by
    constructor
    · intro h
      cases h
    · intro h
      rcases h with h | h <;> cases h
  | p, w :: ws, e => by
    have ih := steps_mem (p + w.many) ws (e := e)
    have et : groundN p (topsOf (w :: ws)) = groundN p (topsW w) ++ groundN (p + w.many) (topsOf ws) := by
      show groundN p (topsW w ++ topsOf ws) = _
      rw [groundN_app]
      have : (topsW w).length = w.many := List.length_replicate
      rw [this]
    rw [et]
    show e ∈ (groundN p (topsW w) ++ spanN w.2.2.1 p w.2.2.2) ++ stepsW (p + w.many) ws ↔ _ ∨ e ∈ spanN w.2.2.1 p w.2.2.2 ++ slopeN (p + w.many) ws
    simp only [List.mem_append, ih]
    constructor
    · rintro ((h | h) | (h | h))
      · exact .inl (.inl h)
      · exact .inr (.inl h)
      · exact .inl (.inr h)
      · exact .inr (.inr h)
    · rintro ((h | h) | (h | h))
      · exact .inl (.inl h)
      · exact .inr (.inl h)
      · exact .inl (.inr h)
      · exact .inr (.inr h)
/-- the law's steps are the limits told -/
theorem steps_lims {ws : List Wal} {ls : List Lnk} {e : Edge} : e ∈ stepsOf ws ls ↔ e ∈ limsOf ws ls := by
  unfold stepsOf limsOf
  simp only [List.mem_append, steps_mem]
def spStp (K : PySem.W.Frag) : Sp := fun vs H Q _ => ∃ (p q : Addr) (ws : List Wal) (ls : List Lnk), vs = [.ref p, .ref q] ∧ WalsAt K H p ws ∧ LnksAt K H q ls ∧ places ws ≤ 100 ∧ ls.length ≤ 50 ∧ (∀ w ∈ ws, Sz w.2.2.1 ∧ ∀ x ∈ w.2.2.2, Sz x) ∧
  ∀ (u : Addr) (H' : Hp), H u = none → Same H H' → LimsAt H' u (stepsOf ws ls) → Q (.ref u) H'
/-- the world while links are drawn -/
structure LW (K : PySem.W.Frag) (H0 H : Hp) (b l q t : Addr) (ls : List Lnk) (hs : List Int) : Prop where
  B : Box H b l
  L : LnksAt K H q ls
  T : H t = some (.lst (hs.map V.int))
  S : SameB b H0 H
  nq : H0 q = none
  fq : b ≠ q ∧ l ≠ q
  ntq : t ≠ q
section
variable {K : PySem.W.Frag} {H0 H H' : Hp} {b l q t : Addr} {ls : List Lnk} {hs : List Int}
theorem LW.same (h : LW K H0 H b l q t ls hs) (s : Same H H') : LW K H0 H' b l q t ls hs := ⟨h.B.same s, h.L.same s, s _ _ h.T, h.S.trans (SameB.of_same s), h.nq, h.fq, h.ntq⟩
theorem LW.draw (h : LW K H0 H b l q t ls hs) (B : Box H' b l) (s : SameB b H H') : LW K H0 H' b l q t ls hs := ⟨B, h.L.sameB h.B s, s _ _ (h.B.neZ h.T) h.T, h.S.trans s, h.nq, h.fq, h.ntq⟩
end
structure LkTxt (mg : Str → Option Value) (fT : Addr) : Prop where
  take : mg "_law_take" = some (.ref fT)
  b_range : mg "range" = none
  b_len : mg "len" = none
section
variable {P : Program} {w : World} {K : PySem.W.Frag} {mg : Str → Option Value} {base : Heap}
theorem scLkL : FnScope ["_law_box_here", "_law_truth_here", "_law_room", "_law_links_here", "_law_k", "_law_first", "_law_second", "_law_less", "_law_more", "_law_gap"] ["_law_box_here", "_law_truth_here", "_law_room"] (defScope sLkL) := ⟨rfl, rfl, rfl, by decide +kernel, rfl, by decide +kernel, by decide +kernel⟩
theorem scStp : FnScope ["_law_shuts", "_law_links_here", "_law_steps_here", "_law_at", "_law_name", "_law_top", "_law_slope", "_law_spans", "_law_k", "_law_first", "_law_second", "_law_least", "_law_greatest"] ["_law_shuts", "_law_links_here"] (defScope sStp) := ⟨rfl, rfl, rfl, by decide +kernel, rfl, by decide +kernel, by decide +kernel⟩
set_option maxHeartbeats 0 in
theorem ok_lkL {f fT : Addr} {fd fdT : FuncData} (F : Fun K "_law_links" "_law_links" sLkL f fd) (GT : FnOk P w K mg base CX0 1 fT fdT ["_law_box_here", "_law_size"] spTake) (FT : Fun K "_law_take" "_law_take" sTake fT fdT) (bT : Binds K fdT ["_law_box_here", "_law_size"] []) (T : LkTxt mg fT) :
    FnOk P w K mg base CX0 2 f fd ["_law_box_here", "_law_truth_here", "_law_room"] (spLkL K) := by
  refine F.ok scLkL (fun vs H Q E h => ?_) (fun cdv A outer s H vs Q E hr h => ?_)
  · obtain ⟨b, l, t, hs, room, rfl, _⟩ := h
    rfl
  · obtain ⟨b, l, t, hs, room, rfl, B, ht, n1, n2, m1, m2, k⟩ := h
    have hr1 : Room 1 _ := hr
    refine ⟨_, (pss_cons (ps_set (i := 3) scLkL.nd rfl (Or.inl rfl) (pe_lst pa_nil))
      (pss_cons (ps_for PassesOwn.never rfl (pi_range1 (by rfl) T.b_range (pa_cons (pe_call GT hr1 rfl T.take FT.kp bT .nil pass0 (pa_cons (pv 0) (pa_cons pe_int pa_nil))) pa_nil)) (pg_name (i := 4) scLkL.nd rfl (Or.inl rfl)) (pss_cons (ps_set (i := 5) scLkL.nd rfl (Or.inl rfl) (pe_call GT hr1 rfl T.take FT.kp bT .nil pass0 (pa_cons (pv 0) (pa_cons (pe_callB call_len_seq (by rfl) T.b_len PySem.boot_len (pa_cons (pv 1) pa_nil)) pa_nil))))
      (pss_cons (ps_set (i := 6) scLkL.nd rfl (Or.inl rfl) (pe_call GT hr1 rfl T.take FT.kp bT .nil pass0 (pa_cons (pv 0) (pa_cons (pe_callB call_len_seq (by rfl) T.b_len PySem.boot_len (pa_cons (pv 1) pa_nil)) pa_nil))))
      (pss_cons (ps_set (i := 7) scLkL.nd rfl (Or.inl rfl) (pe_call GT hr1 rfl T.take FT.kp bT .nil pass0 (pa_cons (pv 0) (pa_cons (pv 2) pa_nil))))
      (pss_cons (ps_set (i := 8) scLkL.nd rfl (Or.inl rfl) (pe_call GT hr1 rfl T.take FT.kp bT .nil pass0 (pa_cons (pv 0) (pa_cons (pv 2) pa_nil))))
      (pss_one (ps_if (pt_cmpR op_ne (pv 5) (pv 6) (nomark _)) (pss_cons (ps_set (i := 9) scLkL.nd rfl (Or.inl rfl) (pe_op op_sub (pe_ix ix_list (pv 1) (pv 6) (fun _ _ => rfl)) (pe_ix ix_list (pv 1) (pv 5) (fun _ _ => rfl))))
      (pss_one (ps_expr (pe_bm PySem.F.plainAttrs_list PySem.F.slot_list_append PySem.F.type_list_append mt_append (pv 3) (pa_cons (pe_tup (pa_cons (pv 5) (pa_cons (pv 6) (pa_cons (pe_op op_sub (pv 9) (pv 7)) (pa_cons (pe_op op_add (pv 9) (pv 8)) pa_nil))))) pa_nil))))) pss_nil)))))))
      (pss_one (ps_ret (pv 3))))), ?_⟩
    have szf : ∀ {z : Int}, 0 ≤ z → z ≤ 10 ^ 17 → z.natAbs < 2 ^ 8000 := fun {z} a b => Nat.lt_of_le_of_lt (show z.natAbs ≤ 10 ^ 17 by omega) (by decide +kernel)
    refine ⟨by show 0 ≤ sizeLine; decide, fun q hq => ?_⟩
    have s1 := same_new (o := .lst []) hq
    have W0 : LW K H (upd H q (.lst [])) b l q t [] hs := ⟨B.same s1, ⟨[], upd_same, rfl, fun i t e z => by cases z⟩, s1 _ _ ht, SameB.of_same s1, hq, B.free hq, ne_of_none ht hq⟩
    generalize upd H q (.lst []) = H1 at W0
    clear s1
    refine ⟨_, rfl, b, l, _, rfl, W0.B, by decide, by decide, fun n H2 n0 n1' B2 k2 => ⟨_, rfl, by omega, by omega, ?_⟩⟩
    refine for_it (walk_range (lo := 0) (n := n.toNat)) (fun i σ' H' => ∃ (v4 v5 v6 v7 v8 v9 : Option V) (ls : List Lnk), σ' = [some (.ref b), some (.ref t), some (.int room), some (.ref q), v4, v5, v6, v7, v8, v9] ∧ LW K H H' b l q t ls hs ∧ ls.length ≤ i ∧ ∀ x ∈ ls, LinkOk hs x)
      ⟨_, _, _, _, _, _, [], rfl, W0.draw B2 (SameB.of k2), Nat.le_refl _, fun _ h => by cases h⟩ (fun _ _ _ _ _ => trivial) ?_ ?_
    · rintro i x σ' H3 H4 hi ⟨v4, v5, v6, v7, v8, v9, ls, rfl, W, ll, lk⟩ ⟨rfl, rfl⟩
      have hL : ∀ {H' : Hp}, LW K H H' b l q t ls hs → SqL K H' t (hs.map V.int) := fun W => SqL.of W.T
      refine ⟨_, rfl, _, rfl, t, _, rfl, .inl (hL W), b, l, _, rfl, W.B, by rw [List.length_map]; omega, szf (by omega) (by rw [List.length_map]; omega), fun f H5 f0 f1 B5 k5 => ?_⟩
      rw [List.length_map] at f1
      have W5 := W.draw B5 (SameB.of k5)
      refine ⟨_, rfl, _, rfl, t, _, rfl, .inl (hL W5), b, l, _, rfl, W5.B, by rw [List.length_map]; omega, szf (by omega) (by rw [List.length_map]; omega), fun g H6 g0 g1 B6 k6 => ?_⟩
      rw [List.length_map] at g1
      have W6 := W5.draw B6 (SameB.of k6)
      refine ⟨_, rfl, _, rfl, b, l, _, rfl, W6.B, by omega, szf (by omega) (by omega), fun le H7 le0 le1 B7 k7 => ?_⟩
      have W7 := W6.draw B7 (SameB.of k7)
      refine ⟨_, rfl, _, rfl, b, l, _, rfl, W7.B, by omega, szf (by omega) (by omega), fun mo H8 mo0 mo1 B8 k8 => ?_⟩
      have W8 := W7.draw B8 (SameB.of k8)
      clear W W5 W6 W7 k5 k6 k7 k8 B5 B6 B7 B8
      refine ⟨_, rfl, _, rfl, rfl, _, rfl, ite2 (fun c => ?_) (fun c => ⟨_, _, _, _, _, _, ls, rfl, W8, by omega, lk⟩)⟩
      obtain ⟨fn, rfl⟩ : ∃ z : Nat, f = (z : Int) := ⟨f.toNat, by omega⟩
      obtain ⟨gn, rfl⟩ : ∃ z : Nat, g = (z : Int) := ⟨g.toNat, by omega⟩
      have hf : (hs.map V.int)[fn]? = some (.int (pot hs fn)) := by
        rw [pot_nat, List.getElem?_map, List.getD_eq_getElem?_getD, List.getElem?_eq_getElem (by omega)]
        rfl
      have hg : (hs.map V.int)[gn]? = some (.int (pot hs gn)) := by
        rw [pot_nat, List.getElem?_map, List.getD_eq_getElem?_getD, List.getElem?_eq_getElem (by omega)]
        rfl
      refine ⟨_, rfl, _, rfl, t, _, _, _, rfl, rfl, hL W8, atI_nat hg, _, rfl, _, rfl, t, _, _, _, rfl, rfl, hL W8, atI_nat hf, _, _, rfl, rfl, ?_⟩
      obtain ⟨zs, z1⟩ : ∃ zs, H8 q = some (.lst zs) := by
        obtain ⟨ts, a, _⟩ := W8.L
        exact ⟨_, a⟩
      refine ⟨_, rfl, .inl ⟨rfl, _, SqL.of z1⟩, _, rfl, _, rfl, _, rfl, _, rfl, _, _, rfl, rfl, _, rfl, _, rfl, _, _, rfl, rfl, by show 4 ≤ sizeLine; decide, fun u hu => ?_⟩
      have s9 := same_new (o := .tup [.int (fn : Nat), .int (gn : Nat), .int (pot hs gn - pot hs fn - le), .int (pot hs gn - pot hs fn + mo)]) hu
      have W9 := W8.same s9
      have e9 : LnkT K (upd H8 u (.tup [.int (fn : Nat), .int (gn : Nat), .int (pot hs gn - pot hs fn - le), .int (pot hs gn - pot hs fn + mo)])) u ((fn : Nat), (gn : Nat), pot hs gn - pot hs fn - le, pot hs gn - pot hs fn + mo) := SqT.of upd_same
      obtain ⟨acc, a1, a2, a3⟩ := W9.L.push e9 (by omega)
      refine ⟨q, acc, _, rfl, rfl, a1, a2, _, _, _, _, _, _, ls ++ [((((fn : Nat) : Int), ((gn : Nat) : Int), pot hs gn - pot hs fn - le, pot hs gn - pot hs fn + mo) : Lnk)], rfl, ⟨W9.B.at W9.fq, a3, by rw [upd_ne W9.ntq]; exact W9.T, fun c o nc e => ?_, W9.nq, W9.fq, W9.ntq⟩, by rw [List.length_append]; show ls.length + 1 ≤ i + 1; omega, fun x hx => ?_⟩
      · rw [upd_ne (fun z => by rw [z, W9.nq] at e; cases e)]
        exact W9.S c o nc e
      · rcases List.mem_append.mp hx with hx | hx
        · exact lk x hx
        · rw [List.mem_singleton] at hx
          subst hx
          have nfg : ((fn : Nat) : Int) ≠ (gn : Nat) := fun z => by
            rw [z] at c
            simp at c
          exact ⟨⟨by show (0 : Int) ≤ (fn : Nat); omega, by show ((fn : Nat) : Int) < _; omega⟩, ⟨by show (0 : Int) ≤ (gn : Nat); omega, by show ((gn : Nat) : Int) < _; omega⟩, fun z => nfg z.symm, by show pot hs gn - pot hs fn - le ≤ pot hs gn - pot hs fn; omega, by show pot hs gn - pot hs fn ≤ pot hs gn - pot hs fn + mo; omega⟩
    rintro σ' H3 ⟨v4, v5, v6, v7, v8, v9, ls, rfl, W, ll, lk⟩
    exact ⟨_, rfl, k q ls _ hq W.L (by omega) lk W.B W.S⟩
set_option maxHeartbeats 0 in
theorem ok_stp {f fT : Addr} {fd : FuncData} (F : Fun K "_law_steps" "_law_steps" sStp f fd) (T : LkTxt mg fT) : FnOk P w K mg base CX0 1 f fd ["_law_shuts", "_law_links_here"] (spStp K) := by
  refine F.ok scStp (fun vs H Q E h => ?_) (fun cdv A outer s H vs Q E hr h => ?_)
  · obtain ⟨p, q, ws, ls, rfl, _⟩ := h
    rfl
  · obtain ⟨p, q, ws, ls, rfl, hW, hL, p1, p2, hz, k⟩ := h
    refine ⟨_, (pss_cons (ps_set (i := 2) scStp.nd rfl (Or.inl rfl) (pe_lst pa_nil))
      (pss_cons (ps_set (i := 3) scStp.nd rfl (Or.inl rfl) pe_int)
      (pss_cons (ps_for PassesOwn.never rfl (pi_list (pv 0)) (pg_tup (by rfl) (pgs_cons (pg_name (i := 4) scStp.nd rfl (Or.inl rfl)) (pgs_cons (pg_name (i := 5) scStp.nd rfl (Or.inl rfl)) (pgs_cons (pg_name (i := 6) scStp.nd rfl (Or.inl rfl)) (pgs_cons (pg_name (i := 7) scStp.nd rfl (Or.inl rfl)) pgs_nil))))) (pss_cons (ps_for PassesOwn.never rfl (pi_range1 (by rfl) T.b_range (pa_cons (pe_op op_add (pe_callB call_len_seq (by rfl) T.b_len PySem.boot_len (pa_cons (pv 7) pa_nil)) pe_int) pa_nil)) (pg_name (i := 8) scStp.nd rfl (Or.inl rfl)) (pss_cons (ps_expr (pe_bm PySem.F.plainAttrs_list PySem.F.slot_list_append PySem.F.type_list_append mt_append (pv 2) (pa_cons (pe_tup (pa_cons (pe_un un_neg pe_int) (pa_cons (pe_op op_add (pv 3) (pv 8)) (pa_cons (pv 5) pa_nil)))) pa_nil)))
      (pss_one (ps_expr (pe_bm PySem.F.plainAttrs_list PySem.F.slot_list_append PySem.F.type_list_append mt_append (pv 2) (pa_cons (pe_tup (pa_cons (pe_op op_add (pv 3) (pv 8)) (pa_cons (pe_un un_neg pe_int) (pa_cons pe_int pa_nil)))) pa_nil))))))
      (pss_cons (ps_for PassesOwn.never rfl (pi_range1 (by rfl) T.b_range (pa_cons (pe_callB call_len_seq (by rfl) T.b_len PySem.boot_len (pa_cons (pv 7) pa_nil)) pa_nil)) (pg_name (i := 8) scStp.nd rfl (Or.inl rfl)) (pss_cons (ps_expr (pe_bm PySem.F.plainAttrs_list PySem.F.slot_list_append PySem.F.type_list_append mt_append (pv 2) (pa_cons (pe_tup (pa_cons (pe_op op_add (pv 3) (pv 8)) (pa_cons (pe_op op_add (pe_op op_add (pv 3) (pv 8)) pe_int) (pa_cons (pe_op op_mulW (pv 6) (pe_ix ix_tup (pv 7) (pv 8) (fun _ _ => rfl))) pa_nil)))) pa_nil)))
      (pss_one (ps_expr (pe_bm PySem.F.plainAttrs_list PySem.F.slot_list_append PySem.F.type_list_append mt_append (pv 2) (pa_cons (pe_tup (pa_cons (pe_op op_add (pe_op op_add (pv 3) (pv 8)) pe_int) (pa_cons (pe_op op_add (pv 3) (pv 8)) (pa_cons (pe_op op_mulW (pv 6) (pe_ix ix_tup (pv 7) (pv 8) (fun _ _ => rfl))) pa_nil)))) pa_nil))))))
      (pss_one (ps_set (i := 3) scStp.nd rfl (Or.inl rfl) (pe_op op_add (pe_op op_add (pv 3) (pe_callB call_len_seq (by rfl) T.b_len PySem.boot_len (pa_cons (pv 7) pa_nil))) pe_int))))))
      (pss_cons (ps_for PassesOwn.never rfl (pi_list (pv 1)) (pg_tup (by rfl) (pgs_cons (pg_name (i := 9) scStp.nd rfl (Or.inl rfl)) (pgs_cons (pg_name (i := 10) scStp.nd rfl (Or.inl rfl)) (pgs_cons (pg_name (i := 11) scStp.nd rfl (Or.inl rfl)) (pgs_cons (pg_name (i := 12) scStp.nd rfl (Or.inl rfl)) pgs_nil))))) (pss_cons (ps_expr (pe_bm PySem.F.plainAttrs_list PySem.F.slot_list_append PySem.F.type_list_append mt_append (pv 2) (pa_cons (pe_tup (pa_cons (pv 9) (pa_cons (pv 10) (pa_cons (pv 12) pa_nil)))) pa_nil)))
      (pss_one (ps_expr (pe_bm PySem.F.plainAttrs_list PySem.F.slot_list_append PySem.F.type_list_append mt_append (pv 2) (pa_cons (pe_tup (pa_cons (pv 10) (pa_cons (pv 9) (pa_cons (pe_un un_neg (pv 11)) pa_nil)))) pa_nil))))))
      (pss_one (ps_ret (pv 2))))))), ?_⟩
    refine ⟨by show 0 ≤ sizeLine; decide, fun D hD => ?_⟩
    have S1 := same_new (o := .lst []) hD
    obtain ⟨ts, t1, t2, t3⟩ := id hW
    refine ⟨_, rfl, p, rfl, ⟨_, SqL.of (S1 _ _ t1)⟩, ?_⟩
    refine for_it (walk_list (xs := ts.map V.ref)) (fun i σ' H' => ∃ v4 v5 v6 v7 v8 : Option V, σ' = [some (.ref p), some (.ref q), some (.ref D), some (.int (places (ws.take i) : Nat)), v4, v5, v6, v7, v8, none, none, none, none] ∧ LimsAt H' D (stepsW 0 (ws.take i)) ∧ Same H H')
      ⟨_, _, _, _, _, rfl, ⟨[], upd_same, rfl, fun i t e z => by cases z⟩, S1⟩ (fun i σ' H' _ h => by obtain ⟨_, _, _, _, _, _, _, z⟩ := h; exact SqL.of (z _ _ t1)) ?_ ?_
    · rintro i x σ' H1 H2 hi ⟨v4, v5, v6, v7, v8, rfl, L, S⟩ ⟨rfl, hx⟩
      rw [List.length_map] at hi
      rw [List.getElem?_map, List.getElem?_eq_getElem hi] at hx
      cases hx
      obtain ⟨⟨nm, tp, sl, spans⟩, hw⟩ : ∃ l, ws[i]? = some l := ⟨_, List.getElem?_eq_getElem (by omega)⟩
      obtain ⟨sp, z1H, z2H⟩ := t3 i _ _ (List.getElem?_eq_getElem hi) hw
      have z1 := S _ _ z1H
      have z2H : SqT K H sp (spans.map V.int) := z2H
      have z2 := sqT_same z2H S
      obtain ⟨hs1, hs2⟩ := hz _ (List.mem_of_getElem? hw)
      have hs1 : Sz sl := hs1
      have hs2 : ∀ x ∈ spans, Sz x := hs2
      have pt := places_take hw
      have pm : Wal.many (nm, tp, sl, spans) = spans.length + 1 := rfl
      rw [pm] at pt
      have pl := stepsW_len 0 (ws.take i)
      refine ⟨_, _, rfl, SqT.of z1, rfl, _, _, rfl, _, _, rfl, _, _, rfl, _, _, rfl, rfl, ?_⟩
      have et : stepsW 0 (ws.take (i + 1)) = stepsW 0 (ws.take i) ++ (groundN (places (ws.take i) : Nat) (topsW (nm, tp, sl, spans)) ++ spanN sl (places (ws.take i) : Nat) spans) := by
        rw [List.take_succ, hw, Option.toList_some, stepsW_snoc, Int.zero_add]
      have P : ∃ P : Nat, places (ws.take i) = P := ⟨_, rfl⟩
      obtain ⟨P, eP⟩ := P
      rw [eP] at et pt pl ⊢
      have rl : ∀ m : Nat, (groundN (P : Int) (List.replicate m tp)).length = 2 * m := fun m => by rw [groundN_len, List.length_replicate]
      refine ⟨_, rfl, sp, _, rfl, .inr z2, _, _, rfl, rfl, _, rfl, by omega, by rw [List.length_map]; omega, ?_⟩
      refine for_it (walk_range (lo := 0) (n := (((spans.map V.int).length : Int) + 1).toNat)) (fun m σ' H' => ∃ v8 : Option V, σ' = [some (.ref p), some (.ref q), some (.ref D), some (.int (P : Int)), some (.str nm), some (.int tp), some (.int sl), some (.ref sp), v8, none, none, none, none] ∧ LimsAt H' D (stepsW 0 (ws.take i) ++ groundN (P : Int) (List.replicate m tp)) ∧ Same H H')
        ⟨v8, rfl, by show LimsAt _ _ (stepsW 0 (ws.take i) ++ []); rw [List.append_nil]; exact L, S⟩ (fun _ _ _ _ _ => trivial) ?_ ?_
      · rintro m x σ' H3 H4 hm ⟨v8, rfl, L3, S3⟩ ⟨rfl, rfl⟩
        rw [List.length_map] at hm
        obtain ⟨zs, q1, q2⟩ := L3.len
        have em : groundN (P : Int) (List.replicate (m + 1) tp) = groundN (P : Int) (List.replicate m tp) ++ ([(-1, (P : Int) + (0 + (m : Nat)), tp), ((P : Int) + (0 + (m : Nat)), -1, 0)] : List Edge) := by
          rw [List.replicate_succ', groundN_snoc, List.length_replicate, Int.zero_add]
          rfl
        have pp := push2 (H0 := H) (Q := fun H' => LimsAt H' D (stepsW 0 (ws.take i) ++ groundN (P : Int) (List.replicate (m + 1) tp)) ∧ Same H H')
          (-1, (P : Int) + (0 + (m : Nat)), tp) ((P : Int) + (0 + (m : Nat)), -1, 0) L3 S3 hD
          (by have := rl m; rw [List.length_append]; omega) (fun H' l s => ⟨by rw [em, ← List.append_assoc]; exact l, s⟩)
        refine ⟨_, rfl, .inl ⟨rfl, _, SqL.of q1⟩, _, rfl, _, rfl, _, rfl, _, _, rfl, rfl, _, rfl, by show 3 ≤ sizeLine; decide, fun t ht => ?_⟩
        obtain ⟨xs, x1, x2, x3⟩ := pp t ht
        refine ⟨D, xs, _, rfl, rfl, x1, x2, ?_⟩
        obtain ⟨⟨ys, y1⟩, y2⟩ := x3 _ rfl
        refine ⟨_, rfl, .inl ⟨rfl, _, SqL.of y1⟩, _, rfl, _, rfl, _, _, rfl, rfl, _, rfl, by show 3 ≤ sizeLine; decide, fun u hu => ?_⟩
        obtain ⟨ys', w1, w2, w3, w4⟩ := y2 u hu
        exact ⟨D, ys', _, rfl, rfl, w1, w2, _, rfl, w3, w4⟩
      rintro σ' H3 ⟨v8, rfl, L3, S3⟩
      rw [List.length_map] at L3
      have ntl : ((spans.length : Int) + 1).toNat = spans.length + 1 := by omega
      rw [ntl] at L3
      have gl := rl (spans.length + 1)
      have z3 := sqT_same z2H S3
      refine ⟨_, rfl, sp, _, rfl, .inr z3, _, rfl, by omega, by rw [List.length_map]; omega, ?_⟩
      refine for_it (walk_range (lo := 0) (n := ((spans.map V.int).length : Int).toNat)) (fun m σ' H' => ∃ v8 : Option V, σ' = [some (.ref p), some (.ref q), some (.ref D), some (.int (P : Int)), some (.str nm), some (.int tp), some (.int sl), some (.ref sp), v8, none, none, none, none] ∧ LimsAt H' D ((stepsW 0 (ws.take i) ++ groundN (P : Int) (List.replicate (spans.length + 1) tp)) ++ spanN sl (P : Int) (spans.take m)) ∧ Same H H')
        ⟨v8, rfl, by rw [List.take_zero]; show LimsAt _ _ (_ ++ []); rw [List.append_nil]; exact L3, S3⟩ (fun _ _ _ _ _ => trivial) ?_ ?_
      · rintro m x σ' H5 H4 hm ⟨v8, rfl, L5, S5⟩ ⟨rfl, rfl⟩
        rw [List.length_map] at hm
        have hm : m < spans.length := by omega
        obtain ⟨zs, q1, q2⟩ := L5.len
        have z5 := sqT_same z2H S5
        have em : spanN sl (P : Int) (spans.take (m + 1)) = spanN sl (P : Int) (spans.take m) ++ ([((P : Int) + (0 + (m : Nat)), (P : Int) + (0 + (m : Nat)) + 1, sl * spans[m]), ((P : Int) + (0 + (m : Nat)) + 1, (P : Int) + (0 + (m : Nat)), sl * spans[m])] : List Edge) := by
          rw [List.take_succ, List.getElem?_eq_getElem hm, Option.toList_some, spanN_snoc, List.length_take, show min m spans.length = m by omega, Int.zero_add]
          rfl
        have cm : CMulW sl spans[m] := Sz.mul hs1.w (hs2 _ (List.getElem_mem hm)).w
        have ai : atI (spans.map V.int) (0 + (m : Nat)) = some (.int spans[m]) := by
          rw [Int.zero_add]
          exact atI_nat (by rw [List.getElem?_map, List.getElem?_eq_getElem hm]; rfl)
        have pp := push2 (H0 := H) (Q := fun H' => LimsAt H' D ((stepsW 0 (ws.take i) ++ groundN (P : Int) (List.replicate (spans.length + 1) tp)) ++ spanN sl (P : Int) (spans.take (m + 1))) ∧ Same H H')
          ((P : Int) + (0 + (m : Nat)), (P : Int) + (0 + (m : Nat)) + 1, sl * spans[m]) ((P : Int) + (0 + (m : Nat)) + 1, (P : Int) + (0 + (m : Nat)), sl * spans[m]) L5 S5 hD
          (by rw [List.length_append, List.length_append, spanN_len, List.length_take]; omega) (fun H' l s => ⟨by rw [em, ← List.append_assoc]; exact l, s⟩)
        refine ⟨_, rfl, .inl ⟨rfl, _, SqL.of q1⟩, _, rfl, _, rfl, _, _, rfl, rfl, _, rfl, _, rfl, _, _, rfl, rfl, _, _, rfl, rfl, _, rfl, _, rfl, _, rfl, sp, _, _, _, rfl, rfl, z5, ai, _, _, rfl, rfl, cm, by show 3 ≤ sizeLine; decide, fun t ht => ?_⟩
        obtain ⟨xs, x1, x2, x3⟩ := pp t ht
        refine ⟨D, xs, _, rfl, rfl, x1, x2, ?_⟩
        obtain ⟨⟨ys, y1⟩, y2⟩ := x3 _ rfl
        have z6 : SqT K (upd (upd H4 t (.tup [.int ((P : Int) + (0 + (m : Nat))), .int ((P : Int) + (0 + (m : Nat)) + 1), .int (sl * spans[m])])) D (.lst (xs ++ [.ref t]))) sp (spans.map V.int) := sqT_lst x1 (sqT_same z5 (same_new ht))
        refine ⟨_, rfl, .inl ⟨rfl, _, SqL.of y1⟩, _, rfl, _, rfl, _, _, rfl, rfl, _, _, rfl, rfl, _, rfl, _, rfl, _, _, rfl, rfl, _, rfl, _, rfl, _, rfl, sp, _, _, _, rfl, rfl, z6, ai, _, _, rfl, rfl, cm, by show 3 ≤ sizeLine; decide, fun u hu => ?_⟩
        obtain ⟨ys', w1, w2, w3, w4⟩ := y2 u hu
        exact ⟨D, ys', _, rfl, rfl, w1, w2, _, rfl, w3, w4⟩
      rintro σ' H5 ⟨v8, rfl, L5, S5⟩
      rw [List.length_map, Int.toNat_natCast, List.take_length, List.append_assoc] at L5
      have z5 := sqT_same z2H S5
      refine ⟨_, rfl, _, rfl, sp, _, rfl, .inr z5, _, _, rfl, rfl, _, _, rfl, rfl, some (.str nm), some (.int tp), some (.int sl), some (.ref sp), v8, ?_, by rw [et]; exact L5, S5⟩
      have e1 : (P : Int) + ((spans.map V.int).length : Nat) + 1 = ((places (ws.take (i + 1)) : Nat) : Int) := by
        rw [List.take_succ, hw, Option.toList_some, places_snoc, pm, eP, List.length_map]
        omega
      rw [← e1]
      rfl
    rintro σ' H1 ⟨v4, v5, v6, v7, v8, rfl, L, S⟩
    rw [List.length_map, t2, List.take_length] at L
    have aL := stepsW_len 0 ws
    obtain ⟨us, u1, u2, u3⟩ := id hL
    refine ⟨_, rfl, q, rfl, ⟨_, SqL.of (S _ _ u1)⟩, ?_⟩
    refine for_it (walk_list (xs := us.map V.ref)) (fun i σ' H' => ∃ v3 v9 v10 v11 v12 : Option V, σ' = [some (.ref p), some (.ref q), some (.ref D), v3, v4, v5, v6, v7, v8, v9, v10, v11, v12] ∧ LimsAt H' D (stepsW 0 ws ++ (ls.take i).flatMap linkE) ∧ Same H H')
      ⟨_, _, _, _, _, rfl, by rw [List.take_zero]; show LimsAt _ _ (_ ++ []); rw [List.append_nil]; exact L, S⟩ (fun i σ' H' _ h => by obtain ⟨_, _, _, _, _, _, _, z⟩ := h; exact SqL.of (z _ _ u1)) ?_ ?_
    · rintro i x σ' H3 H2 hi ⟨v3, v9, v10, v11, v12, rfl, L, S⟩ ⟨rfl, hx⟩
      rw [List.length_map] at hi
      rw [List.getElem?_map, List.getElem?_eq_getElem hi] at hx
      cases hx
      obtain ⟨⟨a, b, least, most⟩, hl⟩ : ∃ l, ls[i]? = some l := ⟨_, List.getElem?_eq_getElem (by omega)⟩
      have z := sqT_same (u3 i _ _ (List.getElem?_eq_getElem hi) hl) S
      refine ⟨_, _, rfl, z, rfl, _, _, rfl, _, _, rfl, _, _, rfl, _, _, rfl, rfl, ?_⟩
      obtain ⟨zs, z1, z2⟩ := L.len
      have et : stepsW 0 ws ++ (ls.take (i + 1)).flatMap linkE = (stepsW 0 ws ++ (ls.take i).flatMap linkE) ++ ([(a, b, most), (b, a, -least)] : List Edge) := by
        rw [List.take_succ, hl, List.flatMap_append, List.append_assoc]
        simp [linkE]
      have pp := push2 (H0 := H) (Q := fun H' => LimsAt H' D (stepsW 0 ws ++ (ls.take (i + 1)).flatMap linkE) ∧ Same H H')
        (a, b, most) (b, a, -least) L S hD (by rw [List.length_append, linkE_len, List.length_take]; omega) (fun H' l s => ⟨by rw [et]; exact l, s⟩)
      refine ⟨_, rfl, .inl ⟨rfl, _, SqL.of z1⟩, _, rfl, _, rfl, _, rfl, by show 3 ≤ sizeLine; decide, fun t ht => ?_⟩
      obtain ⟨xs, x1, x2, x3⟩ := pp t ht
      refine ⟨D, xs, _, rfl, rfl, x1, x2, ?_⟩
      obtain ⟨⟨ys, y1⟩, y2⟩ := x3 _ rfl
      refine ⟨_, rfl, .inl ⟨rfl, _, SqL.of y1⟩, _, rfl, _, rfl, _, rfl, least, rfl, by show 3 ≤ sizeLine; decide, fun u hu => ?_⟩
      obtain ⟨ys', w1, w2, w3, w4⟩ := y2 u hu
      exact ⟨D, ys', _, rfl, rfl, w1, w2, _, _, _, _, _, rfl, w3, w4⟩
    rintro σ' H3 ⟨v3, v9, v10, v11, v12, rfl, L, S⟩
    rw [List.length_map, u2, List.take_length] at L
    exact ⟨_, rfl, k D H3 hD S L⟩
end
end Law

/-! What a site tells of its nodes. -/
namespace Law
open PySem PySem.Spec PyProof.Rows L2 Sup
abbrev sLim : Stmt := inClass (top 17) 9
abbrev sChn : Stmt := inClass (top 17) 12
/-- a node of the site -/
def nodeB (ws : List Wal) (a : Int) : Bool := decide (-1 ≤ a ∧ a < (places ws : Nat))
/-- the node told of, if one is none -/
def nodesDue (ws : List Wal) (a b : Int) : Option Int := if nodeB ws a = false then some a else if nodeB ws b = false then some b else none
def limOf (ws : List Wal) (ls : List Lnk) (a b : Int) : Int := ((atI (leastSums (places ws) (toldOf ws ls)) a).bind fun row => atI row b).getD 0
def tolV (ws : List Wal) (ls : List Lnk) (a b : Int) : V := match (toldOf ws ls).find? (likeE (a, b, 0)) with
  | none => .non
  | some e => .int e.2.2
def tightB (ws : List Wal) (ls : List Lnk) (a n o : Int) : Bool := match (toldOf ws ls).find? (likeE (n, o, 0)) with
  | none => false
  | some e => decide (limOf ws ls a n + e.2.2 = limOf ws ls a o)
structure MeTxt (K : PySem.W.Frag) (mg : Str → Option Value) (CS : Addr) : Prop where
  cl : Cls K CS
  na : ∀ m ∈ (["_rows", "_links", "_spots", "_places", "_tops", "size", "_told", "_limits"] : List Str), NoAttr K CS m
  ground : ∃ t, mg "GROUND" = some (.int (-1) t)
  b_range : mg "range" = none
def spChn (K : PySem.W.Frag) (C : Errs) (CS : Addr) : Sp := fun vs H Q E => ∃ (r : Addr) (ws : List Wal) (ls : List Lnk) (a b : Int), vs = [.ref r, .int a, .int b] ∧ SiteAt K CS ws ls H r ∧ Sz a ∧ Sz b ∧ (∀ z, nodesDue ws a b = some z → DueX C E (Same H) (.place z)) ∧ (nodesDue ws a b = none → ∀ H', Same H H' → Q .non H')
def spChnN (K : PySem.W.Frag) (C : Errs) (CS : Addr) : Sp := fun vs H Q E => ∃ (r : Addr) (ws : List Wal) (ls : List Lnk) (ns : List Int), vs = .ref r :: ns.map V.int ∧ SiteAt K CS ws ls H r ∧ (∀ z ∈ ns, Sz z) ∧ ns.length ≤ 100 ∧ (∀ z, ns.find? (fun z => !nodeB ws z) = some z → DueX C E (Same H) (.place z)) ∧ (ns.find? (fun z => !nodeB ws z) = none → ∀ H', Same H H' → Q .non H')
def spChnT (K : PySem.W.Frag) (C : Errs) (CS : Addr) : Sp := fun vs H Q E => ∃ (r t : Addr) (ws : List Wal) (ls : List Lnk) (ns : List Int), vs = [.ref r, .ref t] ∧ H t = some (.tup (ns.map V.int)) ∧ SiteAt K CS ws ls H r ∧ (∀ z ∈ ns, Sz z) ∧ (∀ z, ns.find? (fun z => !nodeB ws z) = some z → DueX C E (Same H) (.place z)) ∧ (ns.find? (fun z => !nodeB ws z) = none → Q .non H)
def spTol (K : PySem.W.Frag) (C : Errs) (CS : Addr) : Sp := fun vs H Q E => ∃ (r : Addr) (ws : List Wal) (ls : List Lnk) (a b : Int), vs = [.ref r, .int a, .int b] ∧ SiteAt K CS ws ls H r ∧ Sz a ∧ Sz b ∧ (∀ z, nodesDue ws a b = some z → DueX C E (Same H) (.place z)) ∧ (nodesDue ws a b = none → ∀ H', Same H H' → Q (tolV ws ls a b) H')
def spLim (K : PySem.W.Frag) (C : Errs) (CS : Addr) : Sp := fun vs H Q E => ∃ (r : Addr) (ws : List Wal) (ls : List Lnk) (a b : Int), vs = [.ref r, .int a, .int b] ∧ SiteAt K CS ws ls H r ∧ Sz a ∧ Sz b ∧ (∀ z, nodesDue ws a b = some z → DueX C E (Same H) (.place z)) ∧ (nodesDue ws a b = none → ∀ H', Same H H' → Q (.int (limOf ws ls a b)) H')
def spTgt (K : PySem.W.Frag) (CS : Addr) : Sp := fun vs H Q _ => ∃ (r : Addr) (ws : List Wal) (ls : List Lnk) (a n o : Int), vs = [.ref r, .int a, .int n, .int o] ∧ SiteAt K CS ws ls H r ∧ nodeB ws a = true ∧ nodeB ws n = true ∧ nodeB ws o = true ∧ ∀ H', Same H H' → Q (.bl (tightB ws ls a n o)) H'
theorem SiteAt.same {K : PySem.W.Frag} {CS r : Addr} {ws : List Wal} {ls : List Lnk} {H H' : Hp} (h : SiteAt K CS ws ls H r) (s : Same H H') : SiteAt K CS ws ls H' r := by
  obtain ⟨dx, fs, pr, pl, ps, pd, pt, h0, ⟨a1, a2⟩, ⟨b1, b2⟩, ⟨c1, c2⟩, ⟨d1, d2⟩, ⟨e1, e2⟩, f1, g1, ptd, plm, t1, t2, m1, m2⟩ := h
  exact ⟨dx, fs, pr, pl, ps, pd, pt, s _ _ h0, ⟨a1, a2.same s⟩, ⟨b1, b2.same s⟩, ⟨c1, c2.same s⟩, ⟨d1, by obtain ⟨kv, k1, k2⟩ := d2; exact ⟨kv, s _ _ k1, k2⟩⟩, ⟨e1, s _ _ e2⟩, f1, g1, ptd, plm, t1, s _ _ t2, m1, m2.same s⟩
/-- a row of the limits, and a limit -/
theorem lim_at {ws : List Wal} {ls : List Lnk} {a b : Int} (ha : nodeB ws a = true) (hb : nodeB ws b = true) : ∃ row : List Int, atI (leastSums (places ws) (toldOf ws ls)) a = some row ∧ atI row b = some (limOf ws ls a b) := by
  have ha := of_decide_eq_true ha
  have hb := of_decide_eq_true hb
  have sq : Sqr (places ws + 1) (leastSums (places ws) (toldOf ws ls)) := fold_sqr _ (firstTab_sqr _ _) fun k hk => nodesI_mem hk
  obtain ⟨row, r1, r2, _⟩ := atI_some sq.1 ha.1 ha.2
  obtain ⟨x, x1, _⟩ := atI_some (sq.2 row r2) hb.1 hb.2
  refine ⟨row, r1, ?_⟩
  unfold limOf
  rw [r1, Option.bind_some, x1]
  rfl
theorem TabAt.row {H : Hp} {p : Addr} {M : List (List Int)} (h : TabAt H p M) {a : Int} {row : List Int} (e : atI M a = some row) : ∃ (xs : List V) (t : Addr), H p = some (.lst xs) ∧ atI xs a = some (.ref t) ∧ H t = some (.lst (row.map V.int)) := by
  obtain ⟨ts, h1, h2, h3⟩ := h
  unfold atI at e
  rw [← h2] at e
  cases e1 : ixN ts.length a with
  | none => rw [e1] at e; cases e
  | some j =>
    rw [e1] at e
    have e : M[j]? = some row := e
    have hj : j < M.length := (List.getElem?_eq_some_iff.mp e).1
    have et : ts[j]? = some ts[j] := List.getElem?_eq_getElem (by omega)
    refine ⟨_, ts[j], h1, ?_, h3 j _ _ et e⟩
    unfold atI
    rw [List.length_map, e1]
    show (ts.map V.ref)[j]? = _
    rw [List.getElem?_map, et]
    rfl
section
variable {P : Program} {w : World} {K : PySem.W.Frag} {mg : Str → Option Value} {base : Heap} {C : Errs} {CS : Addr}
theorem scChn : FnScope ["self", "nodes", "node"] ((["self"] : List Str) ++ (["nodes"] : List Str)) (defScope sChn) := ⟨rfl, rfl, rfl, by decide +kernel, rfl, by decide +kernel, by decide +kernel⟩
theorem scLim : FnScope ["self", "first", "second"] ["self", "first", "second"] (defScope sLim) := ⟨rfl, rfl, rfl, by decide +kernel, rfl, by decide +kernel, by decide +kernel⟩
set_option maxHeartbeats 0 in
theorem two_mem {p : Int → Prop} {a b : Int} (ha : p a) (hb : p b) : ∀ z ∈ ([a, b] : List Int), p z := fun z hz => by
  rcases List.mem_cons.mp hz with rfl | hz
  · exact ha
  · rcases List.mem_cons.mp hz with rfl | hz
    · exact hb
    · cases hz
theorem ok_chnN {f : Addr} {fd : FuncData} (F : Fun K "check_nodes" "Site.check_nodes" sChn f fd) (RP : ErrOk P w K mg base "NoPlace" C.P "place" okInt) (T : MeTxt K mg CS)
    (hb : ∀ us rest : List Value, us.length = 1 → bindArgs fd ⟨us ++ rest, []⟩ = (newTuple rest >>= fun t => pure ((["self"] : List Str).zip us ++ [(("nodes" : Str), t)]))) : FnR P w K mg base (L2.CX P w) 4 f (spChnN K C CS) := by
  obtain ⟨tg, hgr⟩ := T.ground
  obtain ⟨oc, od, kVx, doc, pm, an, cdv, ct, osl, rfl, lk, hcd⟩ := F.ex
  refine (StX.fn_star (ps := ["self"]) (pv := "nodes") (sp := spChnT K C CS) (k := 3) lk hcd scChn StX.cxUp hb fun A outer s H vs Q E hr h => ?_).imp ?_
  · obtain ⟨r, t, ws, ls, ns, rfl, ht, hS, zs, h1, h2⟩ := h
    have hr3 : Room 3 _ := hr.mono (by decide)
    obtain ⟨dx, fs, pr, pl, ps, pd, pt, h0, _, _, _, _, _, f1, _⟩ := id hS
    refine ⟨_, (pss_one (ps_for (passes_of rfl) rfl (pi_tup (pv 1)) (pg_name (i := 2) scChn.nd rfl (Or.inl rfl)) (pss_one (ps_if (pt_not (pt_chain op_le op_lt (pe_glob (v := .int (-1)) rfl hgr ⟨_, rfl⟩) (pv 2) (pe_fld (pv 0) rfl))) (pss_one (ps_err RP rfl (takes_of rfl rfl rfl rfl) hr3 (pa_cons (pv 2) pa_nil) rfl)) pss_nil)))), ?_⟩
    refine ⟨_, rfl, t, rfl, ⟨_, SqT.of ht⟩, ?_⟩
    refine for_it (walk_tup (xs := ns.map V.int)) (fun i σ' H' => ∃ v3 : Option V, σ' = [some (.ref r), some (.ref t), v3] ∧ H' = H ∧ (ns.take i).find? (fun z => !nodeB ws z) = none)
      ⟨_, rfl, rfl, rfl⟩ (fun i σ' H' _ h => by obtain ⟨_, _, rfl, _⟩ := h; exact SqT.of ht) ?_ ?_
    · rintro i x σ' H3 H4 hi ⟨v3, rfl, rfl, g1⟩ ⟨rfl, hx⟩
      rw [List.length_map] at hi
      obtain ⟨z, hz⟩ : ∃ z, ns[i]? = some z := ⟨_, List.getElem?_eq_getElem hi⟩
      rw [List.getElem?_map, hz] at hx
      cases hx
      have zz := zs z (List.mem_of_getElem? hz)
      have fnd : nodeB ws z = false → ns.find? (fun z => !nodeB ws z) = some z := fun h => by
        have e : ns = ns.take i ++ z :: ns.drop (i + 1) := by
          obtain ⟨hi, hx⟩ := List.getElem?_eq_some_iff.mp hz
          rw [← hx, List.getElem_cons_drop, List.take_append_drop]
        rw [e, List.find?_append, g1]
        simp [h]
      have bad : nodeB ws z = false → DueX C E (Same H4) (.place z) := fun h => h1 z (fnd h)
      have ok2 : nodeB ws z = true → (ns.take (i + 1)).find? (fun z => !nodeB ws z) = none := fun h => by
        rw [List.take_succ, hz, Option.toList_some, List.find?_append, g1]
        simp [h]
      refine ⟨_, rfl, _, _, rfl, rfl, _, rfl, ?_⟩
      by_cases c0 : -1 ≤ z
      · refine if_t (decide_eq_true c0) ⟨_, rfl, r, CS, dx, fs, _, rfl, h0, T.cl, T.na _ (by decide), f1, _, _, rfl, rfl, _, rfl, ?_⟩
        by_cases c1 : z < (places ws : Nat)
        · exact if_f (by rw [decide_eq_true c1]; rfl) ⟨_, rfl, rfl, ok2 (decide_eq_true ⟨c0, c1⟩)⟩
        · refine if_t (by rw [decide_eq_false c1]; rfl) ⟨_, rfl, ?_⟩
          exact err_way zz.ok fun d hd => bad (decide_eq_false fun y => c1 y.2) _ d same_rfl hd
      · refine if_f (decide_eq_false c0) ⟨_, rfl, ?_⟩
        refine if_t rfl ⟨_, rfl, ?_⟩
        exact err_way zz.ok fun d hd => bad (decide_eq_false fun y => c0 y.1) _ d same_rfl hd
    rintro σ' H3 ⟨v3, rfl, rfl, g1⟩
    rw [List.length_map, List.take_length] at g1
    exact h2 g1
  · rintro vs H Q E ⟨r, ws, ls, ns, rfl, hS, zs, hl, h1, h2⟩
    refine ⟨[.ref r], ns.map V.int, rfl, rfl, by rw [List.length_map, sizeLine_eq]; omega, fun p hp => ?_⟩
    have s1 := same_new (o := .tup (ns.map V.int)) hp
    exact ⟨r, p, ws, ls, ns, rfl, upd_same, hS.same s1, zs, fun z hz => (h1 z hz).mono fun _ s => same_tr s1 s, fun hn => h2 hn _ s1⟩
theorem ok_chn {f : Addr} {fd : FuncData} (F : Fun K "check_nodes" "Site.check_nodes" sChn f fd) (RP : ErrOk P w K mg base "NoPlace" C.P "place" okInt) (T : MeTxt K mg CS)
    (hb : ∀ us rest : List Value, us.length = 1 → bindArgs fd ⟨us ++ rest, []⟩ = (newTuple rest >>= fun t => pure ((["self"] : List Str).zip us ++ [(("nodes" : Str), t)]))) : FnR P w K mg base (L2.CX P w) 4 f (spChn K C CS) := by
  refine (ok_chnN F RP T hb).imp fun vs H Q E h => ?_
  obtain ⟨r, ws, ls, a, b, rfl, hS, za, zb, h1, h2⟩ := h
  have e : ([a, b] : List Int).find? (fun z => !nodeB ws z) = nodesDue ws a b := by
    unfold nodesDue
    cases ea : nodeB ws a <;> cases eb : nodeB ws b <;> simp [ea, eb]
  exact ⟨r, ws, ls, [a, b], rfl, hS, two_mem za zb, (by show 2 ≤ 100; decide), fun z hz => h1 z (e ▸ hz), fun hn => h2 (e ▸ hn)⟩
set_option maxHeartbeats 0 in
theorem ok_lim {f fCh : Addr} {fd : FuncData} (F : Fun K "limit" "Site.limit" sLim f fd) (GCh : FnR P w K mg base (L2.CX P w) 4 fCh (spChn K C CS)) (MCh : Meth K CS "check_nodes" fCh) (T : MeTxt K mg CS) : FnOk P w K mg base (L2.CX P w) 5 f fd ["self", "first", "second"] (spLim K C CS) := by
  refine F.okX scLim (fun vs H Q E h => ?_) (fun cdv A outer s H vs Q E hr h => ?_)
  · obtain ⟨r, ws, ls, a, b, rfl, _⟩ := h
    rfl
  · obtain ⟨r, ws, ls, a, b, rfl, hS, za, zb, h1, h2⟩ := h
    have hr4 : Room 4 _ := hr
    obtain ⟨dx, fs, pr, pl, ps, pd, pt, h0, _, _, _, _, _, f1, g1, ptd, plm, t1, t2, m1, m2⟩ := id hS
    refine ⟨_, (pss_cons (ps_expr (Own.pe_methW (E := fun _ => E) (pv 0) T.cl MCh GCh hr4 (passS (passes_call (takes_of rfl rfl rfl rfl) fun _ _ _ _ z => z)) (pa_cons (pv 1) (pa_cons (pv 2) pa_nil)))) (pss_one (ps_ret (pe_ix ix_list (pe_ix ix_list (pe_fld (pv 0) rfl) (pv 1) (fun _ _ => rfl)) (pv 2) (fun _ _ => rfl))))), ?_⟩
    refine ⟨_, rfl, r, dx, fs, rfl, h0, g1 _ (by decide), _, rfl, _, rfl, r, ws, ls, a, b, rfl, hS, za, zb, h1, fun hn H1 s1 => ?_⟩
    have hn2 : nodeB ws a = true ∧ nodeB ws b = true := by
      unfold nodesDue at hn
      cases ea : nodeB ws a with
      | false => rw [if_pos ea] at hn; cases hn
      | true =>
        cases eb : nodeB ws b with
        | false => rw [if_neg (by rw [ea]; decide), if_pos eb] at hn; cases hn
        | true => exact ⟨rfl, rfl⟩
    obtain ⟨row, r1, r2⟩ := lim_at (ls := ls) hn2.1 hn2.2
    obtain ⟨xs, t, q1, q2, q3⟩ := m2.row r1
    refine ⟨_, rfl, r, CS, dx, fs, _, rfl, s1 _ _ h0, T.cl, T.na _ (by decide), m1, _, rfl, plm, xs, a, _, rfl, rfl, SqL.of (s1 _ _ q1), q2, _, rfl, t, _, b, _, rfl, rfl, SqL.of (s1 _ _ q3), by rw [atI_map, r2]; rfl, ?_⟩
    exact h2 hn _ s1
end
end Law

/-! Least sums are least. -/
namespace Law
open PySem PySem.Spec PyProof.Rows L2
inductive Wk (es : List Edge) (N : List Int) : Int → Int → Int → Prop
  | nil (a : Int) : Wk es N a a 0
  | one (e : Edge) : e ∈ es → Wk es N e.1 e.2.1 e.2.2
  | snoc {a n x : Int} (e : Edge) : Wk es N a n x → n ∈ N → e ∈ es → e.1 = n → Wk es N a e.2.1 (x + e.2.2)
theorem Wk.pot {es : List Edge} {N : List Int} {pi : Int → Int} (hp : ∀ e ∈ es, pi e.2.1 - pi e.1 ≤ e.2.2) {a b x : Int} (h : Wk es N a b x) : pi b - pi a ≤ x := by
  induction h with
  | nil a => omega
  | one e he => exact hp e he
  | snoc e _ _ he en ih =>
    have := hp e he
    rw [en] at this
    omega
theorem Wk.split {es : List Edge} {N : List Int} {k : Int} {pi : Int → Int} (hp : ∀ e ∈ es, pi e.2.1 - pi e.1 ≤ e.2.2) {a b x : Int} (h : Wk es (N ++ [k]) a b x) :
    (∃ x', x' ≤ x ∧ Wk es N a b x') ∨ ∃ x1 x2, x1 + x2 ≤ x ∧ Wk es N a k x1 ∧ Wk es N k b x2 := by
  induction h with
  | nil a => exact .inl ⟨0, Int.le_refl _, .nil a⟩
  | one e he => exact .inl ⟨_, Int.le_refl _, .one e he⟩
  | snoc e _ hn he en ih =>
    rcases List.mem_append.mp hn with hn | hn
    · rcases ih with ⟨x', h1, h2⟩ | ⟨x1, x2, h1, h2, h3⟩
      · exact .inl ⟨_, by omega, .snoc e h2 hn he en⟩
      · exact .inr ⟨x1, x2 + e.2.2, by omega, h2, .snoc e h3 hn he en⟩
    · rw [List.mem_singleton] at hn
      subst hn
      rcases ih with ⟨x', h1, h2⟩ | ⟨x1, x2, h1, h2, h3⟩
      · exact .inr ⟨x', e.2.2, by omega, h2, en ▸ .one e he⟩
      · have := h3.pot hp
        exact .inr ⟨x1, e.2.2, by omega, h2, en ▸ .one e he⟩
theorem Wk.trans {es : List Edge} {N : List Int} {a b c x y : Int} (h : Wk es N a b x) (g : Wk es N b c y) (hN : ∀ e ∈ es, e.1 ∈ N) : Wk es N a c (x + y) := by
  induction g with
  | nil a => rw [Int.add_zero]; exact h
  | one e he => exact .snoc e h (hN e he) he rfl
  | snoc e _ hn he en ih =>
    rw [← Int.add_assoc]
    exact .snoc e (ih h) hn he en
/-- the sum told of two nodes -/
def ent (M : List (List Int)) (a b : Int) : Int := ((atI M a).bind fun row => atI row b).getD 0
theorem atI_nodes {n : Nat} {a : Int} (h1 : -1 ≤ a) (h2 : a < n) : atI (nodesI n) a = some a := by
  unfold nodesI
  by_cases c : a = -1
  · subst c
    exact atI_last _ _
  · obtain ⟨i, rfl⟩ : ∃ i : Nat, a = (i : Int) := ⟨a.toNat, by omega⟩
    refine atI_nat ?_
    rw [List.getElem?_append_left (by rw [List.length_map, List.length_range]; omega), List.getElem?_map, List.getElem?_range (by omega)]
    rfl
theorem ent_first {n : Nat} (es : List Edge) {a b : Int} (a1 : -1 ≤ a) (a2 : a < n) (b1 : -1 ≤ b) (b2 : b < n) : ent (firstTab n es) a b = firstSum es a b := by
  unfold ent firstTab
  rw [atI_map, atI_nodes a1 a2]
  show (atI ((nodesI n).map fun b => firstSum es a b) b).getD 0 = _
  rw [atI_map, atI_nodes b1 b2]
  rfl
theorem atI_zip {α β γ : Type} (f : α → β → γ) {xs : List α} {ys : List β} (hl : ys.length = xs.length) {k : Int} {x : α} {y : β} (hx : atI xs k = some x) (hy : atI ys k = some y) : atI (List.zipWith f xs ys) k = some (f x y) := by
  unfold atI at hx hy ⊢
  rw [List.length_zipWith, hl, Nat.min_self]
  rw [hl] at hy
  cases e : ixN xs.length k with
  | none => rw [e] at hx; cases hx
  | some j =>
    rw [e] at hx hy
    show (List.zipWith f xs ys)[j]? = _
    have hx : xs[j]? = some x := hx
    have hy : ys[j]? = some y := hy
    rw [List.getElem?_zipWith, hx, hy]
theorem ent_step {n : Nat} {M : List (List Int)} (h : Sqr (n + 1) M) {a b k : Int} (a1 : -1 ≤ a) (a2 : a < n) (b1 : -1 ≤ b) (b2 : b < n) (k1 : -1 ≤ k) (k2 : k < n) :
    ent (fwStep M k) a b = lessOf (ent M a k) (ent M a b) (ent M k b) := by
  obtain ⟨ra, e1, m1, _⟩ := atI_some h.1 a1 a2
  obtain ⟨rk, e2, m2, _⟩ := atI_some h.1 k1 k2
  obtain ⟨x, e3, _⟩ := atI_some (h.2 ra m1) b1 b2
  obtain ⟨y, e4, _⟩ := atI_some (h.2 rk m2) b1 b2
  obtain ⟨z, e5, _⟩ := atI_some (h.2 ra m1) k1 k2
  have ez := atI_zip (lessOf z) (by rw [h.2 ra m1, h.2 rk m2]) e3 e4
  have l : ent (fwStep M k) a b = lessOf z x y := by
    unfold ent fwStep
    rw [atI_map, e1]
    show (atI (sumsBy ra ((atI ra k).getD 0) ((atI M k).getD [])) b).getD 0 = _
    rw [e5, e2]
    show (atI (List.zipWith (lessOf z) ra rk) b).getD 0 = _
    rw [ez]
    rfl
  rw [l]
  unfold ent
  rw [e1, e2]
  show _ = lessOf ((atI ra k).getD 0) ((atI ra b).getD 0) ((atI rk b).getD 0)
  rw [e5, e3, e4]
  rfl
theorem less_le1 (s k m : Int) : lessOf s k m ≤ k := by unfold lessOf; split <;> omega
theorem less_le2 (s k m : Int) : lessOf s k m ≤ s + m := by unfold lessOf; split <;> omega
theorem less_or (s k m : Int) : lessOf s k m = k ∨ lessOf s k m = s + m := by
  unfold lessOf
  split
  · exact .inl rfl
  · exact .inr rfl
section
variable {es : List Edge} {n : Nat} {pi : Int → Int}
theorem fw_le (hp : ∀ e ∈ es, pi e.2.1 - pi e.1 ≤ e.2.2) (hu : UniqE es) : ∀ (ks N : List Int) {M : List (List Int)}, Sqr (n + 1) M → (∀ k ∈ ks, -1 ≤ k ∧ k < n) →
    (∀ a b x : Int, -1 ≤ a → a < n → -1 ≤ b → b < n → Wk es N a b x → ent M a b ≤ x) → ∀ a b x : Int, -1 ≤ a → a < n → -1 ≤ b → b < n → Wk es (N ++ ks) a b x → ent (ks.foldl fwStep M) a b ≤ x
  | [], N, M, hM, hk, h => fun a b x a1 a2 b1 b2 w => h a b x a1 a2 b1 b2 (by rw [List.append_nil] at w; exact w)
  | k :: ks, N, M, hM, hk, h => by
    obtain ⟨k1, k2⟩ := hk k List.mem_cons_self
    have ih := fw_le hp hu ks (N ++ [k]) (M := fwStep M k) (fwStep_sqr hM k1 k2) (fun z hz => hk z (List.mem_cons_of_mem _ hz)) fun a b x a1 a2 b1 b2 w => by
      rw [ent_step hM a1 a2 b1 b2 k1 k2]
      rcases w.split hp with ⟨x', g1, g2⟩ | ⟨x1, x2, g1, g2, g3⟩
      · exact Int.le_trans (less_le1 _ _ _) (Int.le_trans (h a b x' a1 a2 b1 b2 g2) g1)
      · have y1 := h a k x1 a1 a2 k1 k2 g2
        have y2 := h k b x2 k1 k2 b1 b2 g3
        exact Int.le_trans (less_le2 _ _ _) (by omega)
    intro a b x a1 a2 b1 b2 w
    rw [show N ++ k :: ks = (N ++ [k]) ++ ks by simp] at w
    exact ih a b x a1 a2 b1 b2 w
theorem fw_is {N : List Int} (hN : ∀ e ∈ es, e.1 ∈ N) : ∀ (ks : List Int) {M : List (List Int)}, Sqr (n + 1) M → (∀ k ∈ ks, -1 ≤ k ∧ k < n) →
    (∀ a b : Int, -1 ≤ a → a < n → -1 ≤ b → b < n → Wk es N a b (ent M a b)) → ∀ a b : Int, -1 ≤ a → a < n → -1 ≤ b → b < n → Wk es N a b (ent (ks.foldl fwStep M) a b)
  | [], M, hM, hk, h => h
  | k :: ks, M, hM, hk, h => by
    obtain ⟨k1, k2⟩ := hk k List.mem_cons_self
    refine fw_is hN ks (M := fwStep M k) (fwStep_sqr hM k1 k2) (fun z hz => hk z (List.mem_cons_of_mem _ hz)) fun a b a1 a2 b1 b2 => ?_
    rw [ent_step hM a1 a2 b1 b2 k1 k2]
    rcases less_or (ent M a k) (ent M a b) (ent M k b) with e | e
    · rw [e]
      exact h a b a1 a2 b1 b2
    · rw [e]
      exact (h a k a1 a2 k1 k2).trans (h k b k1 k2 b1 b2) hN
/-- from the ground's ways home -/
def Home (es : List Edge) (n : Nat) : Prop := ∀ a : Int, 0 ≤ a → a < n → ∃ e ∈ es, e.1 = a ∧ e.2.1 = -1 ∧ e.2.2 = 0
theorem find_of (hu : UniqE es) {e : Edge} (he : e ∈ es) : es.find? (likeE (e.1, e.2.1, 0)) = some e := by
  cases h : es.find? (likeE (e.1, e.2.1, 0)) with
  | none =>
    have := List.find?_eq_none.mp h e he
    exact absurd (like_iff.mpr ⟨rfl, rfl⟩) this
  | some x =>
    have h1 := like_iff.mp (List.find?_some h)
    have := hu e he x (List.mem_of_find?_eq_some h) (like_iff.mpr h1)
    rw [this]
theorem least_le (hp : ∀ e ∈ es, pi e.2.1 - pi e.1 ≤ e.2.2) (hu : UniqE es) {a b x : Int} (a1 : -1 ≤ a) (a2 : a < n) (b1 : -1 ≤ b) (b2 : b < n) (w : Wk es (nodesI n) a b x) : ent (leastSums n es) a b ≤ x := by
  refine fw_le hp hu (nodesI n) [] (firstTab_sqr n es) (fun k hk => nodesI_mem hk) (fun a b x a1 a2 b1 b2 w => ?_) a b x a1 a2 b1 b2 w
  rw [ent_first es a1 a2 b1 b2]
  have p := w.pot hp
  unfold firstSum
  by_cases c : a = b
  · rw [if_pos c]
    subst c
    omega
  · rw [if_neg c]
    cases w with
    | nil => exact absurd rfl c
    | one e he =>
      rw [find_of hu he]
      exact Int.le_refl _
    | snoc e _ hn => cases hn
theorem least_is (hu : UniqE es) (hn : inNodes n es) (hf : Full n es) (hm : Home es n) {a b : Int} (a1 : -1 ≤ a) (a2 : a < n) (b1 : -1 ≤ b) (b2 : b < n) : Wk es (nodesI n) a b (ent (leastSums n es) a b) := by
  have inN : ∀ z : Int, -1 ≤ z → z < n → z ∈ nodesI n := fun z z1 z2 => by
    have := atI_nodes z1 z2
    obtain ⟨j, _, h, _⟩ := atI_get this
    exact List.mem_of_getElem? h
  have hN : ∀ e ∈ es, e.1 ∈ nodesI n := fun e he => inN _ (hn e he).1.1 (hn e he).1.2
  refine fw_is hN (nodesI n) (firstTab_sqr n es) (fun k hk => nodesI_mem hk) (fun a b a1 a2 b1 b2 => ?_) a b a1 a2 b1 b2
  rw [ent_first es a1 a2 b1 b2]
  unfold firstSum
  by_cases c : a = b
  · rw [if_pos c]
    subst c
    exact .nil a
  · rw [if_neg c]
    cases h : es.find? (likeE (a, b, 0)) with
    | some e =>
      obtain ⟨h1, h2⟩ := like_iff.mp (List.find?_some h)
      have := Wk.one (N := nodesI n) e (List.mem_of_find?_eq_some h)
      have h1 : e.1 = a := h1
      have h2 : e.2.1 = b := h2
      rw [h1, h2] at this
      exact this
    | none =>
      cases g : es.find? (likeE (-1, b, 0)) with
      | none => exact absurd g (hf a (inN a a1 a2) b (inN b b1 b2) c h)
      | some e =>
        have ha : 0 ≤ a := by
          by_cases z : a = -1
          · subst z
            rw [h] at g
            cases g
          · omega
        obtain ⟨e0, m0, f1, f2, f3⟩ := hm a ha a2
        obtain ⟨h1, h2⟩ := like_iff.mp (List.find?_some g)
        have h1 : e.1 = -1 := h1
        have h2 : e.2.1 = b := h2
        have w1 := Wk.one (N := nodesI n) e0 m0
        rw [f1, f2, f3] at w1
        have w2 := Wk.snoc e w1 (inN _ (by omega) (by omega)) (List.mem_of_find?_eq_some g) h1
        rw [h2, Int.zero_add] at w2
        exact w2
/-- what the tight steps reach -/
theorem tight_reach (hp : ∀ e ∈ es, pi e.2.1 - pi e.1 ≤ e.2.2) (hu : UniqE es) (hn : inNodes n es) (hf : Full n es) (hm : Home es n) {S : Int → Prop} {a b : Int} (a1 : -1 ≤ a) (a2 : a < n) (b1 : -1 ≤ b) (b2 : b < n) (sa : S a)
    (st : ∀ e ∈ es, S e.1 → ent (leastSums n es) a e.1 + e.2.2 = ent (leastSums n es) a e.2.1 → S e.2.1) : S b := by
  have key : ∀ {z x : Int}, ∀ (c : Int), c = a → Wk es (nodesI n) c z x → x = ent (leastSums n es) a z → S z := fun {z x} c hc w => by
    induction w with
    | nil c => exact fun _ => hc ▸ sa
    | one e he =>
      intro hx
      refine st e he (hc ▸ sa) ?_
      have h0 : ent (leastSums n es) a a ≤ 0 := least_le hp hu a1 a2 a1 a2 (.nil a)
      have h1 := (least_is hu hn hf hm a1 a2 a1 a2).pot hp
      rw [hc]
      omega
    | @snoc c m x e w hm2 he en ih =>
      intro hx
      obtain ⟨⟨m1, m2⟩, o1, o2⟩ := hn e he
      rw [en] at m1 m2
      have g1 : ent (leastSums n es) a m ≤ x := least_le hp hu a1 a2 m1 m2 (hc ▸ w)
      have g2 : ent (leastSums n es) a e.2.1 ≤ ent (leastSums n es) a m + e.2.2 := least_le hp hu a1 a2 o1 o2 (.snoc e (least_is hu hn hf hm a1 a2 m1 m2) hm2 he en)
      have gx : x = ent (leastSums n es) a m := by omega
      refine st e he (en ▸ ih hc gx) ?_
      rw [en]
      omega
  exact key a rfl (least_is hu hn hf hm a1 a2 b1 b2) rfl
end
end Law

/-! Listing of shapes; the greatest differences are the limits. -/
namespace Law
open PySem PySem.Spec PyProof.Rows L2 Sup
structure Shaped (ws : List Wal) (ls : List Lnk) : Prop where
  sh : ∃ pi : Int → Int, ∀ e ∈ toldOf ws ls, pi e.2.1 - pi e.1 ≤ e.2.2
  ld : linksDue (places ws : Nat) ls = none
  ln : places ws ≤ 200
theorem nodes_ok {ws : List Wal} {a b : Int} (h : nodesDue ws a b = none) : nodeB ws a = true ∧ nodeB ws b = true := by
  unfold nodesDue at h
  cases ea : nodeB ws a with
  | false => rw [if_pos ea] at h; cases h
  | true =>
    cases eb : nodeB ws b with
    | false => rw [if_neg (by rw [ea]; decide), if_pos eb] at h; cases h
    | true => exact ⟨rfl, rfl⟩
theorem told_uniq (ws : List Wal) (ls : List Lnk) : UniqE (toldOf ws ls) := by
  have go : ∀ (fs es : List Edge), UniqE es → UniqE (fs.foldl tell es) := fun fs => by
    induction fs with
    | nil => exact fun es h => h
    | cons f fs ih => exact fun es h => ih _ (tell_uniq h)
  exact go _ _ fun x hx => by cases hx
theorem told_home {ws : List Wal} {ls : List Lnk} (hl : linksDue (places ws : Nat) ls = none) : Home (toldOf ws ls) (places ws) := fun a a0 a1 => by
  obtain ⟨i, rfl⟩ : ∃ i : Nat, a = (i : Int) := ⟨a.toNat, by omega⟩
  have tp := tops_places ws
  obtain ⟨t, ht⟩ : ∃ t, (topsOf ws)[i]? = some t := ⟨_, List.getElem?_eq_getElem (by omega)⟩
  have hm : ((i : Int), (-1 : Int), (0 : Int)) ∈ limsOf ws ls := by
    have := (ground_in (topsOf ws) 0 i ht).2
    rw [Int.zero_add] at this
    unfold limsOf
    exact List.mem_append_left _ (List.mem_append_left _ this)
  obtain ⟨x, x1, x2, x3⟩ := told_less hm
  obtain ⟨y1, y2⟩ := like_iff.mp x2
  refine ⟨x, x1, y1, y2, ?_⟩
  have y1 : x.1 = (i : Int) := y1
  have y2 : x.2.1 = -1 := y2
  rcases lims_cases (told_sub x1) with ⟨j, t2, h1, h2⟩ | ⟨c, w, z, h1, h2, h3, h4, h5⟩ | ⟨l, hl', h2⟩
  · rcases h2 with rfl | rfl
    · exact absurd (show ((j : Nat) : Int) = -1 from y2) (by omega)
    · rfl
  · rcases h5 with rfl | rfl
    · exact absurd (show c + 1 = -1 from y2) (by omega)
    · exact absurd (show c = -1 from y2) (by omega)
  · obtain ⟨g1, g2, g3⟩ := links_ok hl hl'
    rcases h2 with rfl | rfl
    · exact absurd (show l.2.1 = -1 from y2) (by omega)
    · exact absurd (show l.1 = -1 from y2) (by omega)
/-- all that is reached by tight steps is all -/
def growL (ls : List (List Int)) (tp : Int) : List (List Int) := ls.flatMap fun row => (List.range (tp + 1).toNat).map fun (h : Nat) => row ++ [(h : Int)]
def listL (tops : List Int) : List (List Int) := tops.foldl growL [[]]
def InT : List Int → List Int → Prop
  | [], [] => True
  | t :: ts, h :: hs => (0 ≤ h ∧ h ≤ t) ∧ InT ts hs
  | [], _ :: _ => False
  | _ :: _, [] => False
theorem mem_grow {ls : List (List Int)} {t : Int} {x : List Int} : x ∈ growL ls t ↔ ∃ r ∈ ls, ∃ h : Int, (0 ≤ h ∧ h ≤ t) ∧ x = r ++ [h] := by
  unfold growL
  simp only [List.mem_flatMap, List.mem_map, List.mem_range]
  constructor
  · rintro ⟨r, hr, h, hh, rfl⟩
    exact ⟨r, hr, h, by omega, rfl⟩
  · rintro ⟨r, hr, h, hh, rfl⟩
    exact ⟨r, hr, h.toNat, by omega, by rw [Int.toNat_of_nonneg hh.1]⟩
theorem mem_fold : ∀ (tops : List Int) (acc : List (List Int)) {x : List Int}, x ∈ tops.foldl growL acc ↔ ∃ r ∈ acc, ∃ y, InT tops y ∧ x = r ++ y
  | [], acc, x => by
    constructor
    · intro h
      exact ⟨x, h, [], trivial, by rw [List.append_nil]⟩
    · rintro ⟨r, hr, y, hy, rfl⟩
      cases y with
      | nil => rw [List.append_nil]; exact hr
      | cons h y => exact hy.elim
  | t :: ts, acc, x => by
    rw [List.foldl_cons, mem_fold ts]
    constructor
    · rintro ⟨r, hr, y, hy, rfl⟩
      obtain ⟨r0, hr0, h, hh, rfl⟩ := mem_grow.mp hr
      exact ⟨r0, hr0, h :: y, ⟨hh, hy⟩, by rw [List.append_assoc]; rfl⟩
    · rintro ⟨r, hr, y, hy, rfl⟩
      cases y with
      | nil => exact hy.elim
      | cons h y => exact ⟨r ++ [h], mem_grow.mpr ⟨r, hr, h, hy.1, rfl⟩, y, hy.2, by rw [List.append_assoc]; rfl⟩
theorem mem_listL {tops x : List Int} : x ∈ listL tops ↔ InT tops x := by
  unfold listL
  rw [mem_fold]
  constructor
  · rintro ⟨r, hr, y, hy, rfl⟩
    rw [List.mem_singleton] at hr
    subst hr
    exact hy
  · intro h
    exact ⟨[], List.mem_singleton.mpr rfl, x, h, rfl⟩
theorem InT.len : ∀ {ts hs : List Int}, InT ts hs → hs.length = ts.length
  | [], [], _ => rfl
  | _ :: _, _ :: _, h => congrArg (· + 1) (InT.len h.2)
theorem InT.of : ∀ {ts hs : List Int}, hs.length = ts.length → (∀ (i : Nat) (t h : Int), ts[i]? = some t → hs[i]? = some h → 0 ≤ h ∧ h ≤ t) → InT ts hs
  | [], [], _, _ => trivial
  | _ :: _, _ :: _, l, k => ⟨k 0 _ _ rfl rfl, InT.of (Nat.succ.inj l) fun i t h e1 e2 => k (i + 1) t h e1 e2⟩
theorem InT.all {m : Int} : ∀ {ts hs : List Int}, InT ts hs → (∀ t ∈ ts, t ≤ m) → ∀ h ∈ hs, 0 ≤ h ∧ h ≤ m
  | [], [], _, _, _, z => by cases z
  | t :: ts, x :: xs, k, hm, h, z => by
    rcases List.mem_cons.mp z with rfl | z
    · have := hm t List.mem_cons_self
      have := k.1
      omega
    · exact InT.all k.2 (fun t ht => hm t (List.mem_cons_of_mem _ ht)) h z
def fitsB (es : List Edge) (x : List Int) : Bool := es.all fun e => decide (pot x e.2.1 - pot x e.1 ≤ e.2.2)
theorem fits_iff {es : List Edge} {x : List Int} : fitsB es x = true ↔ ∀ e ∈ es, pot x e.2.1 - pot x e.1 ≤ e.2.2 := by
  unfold fitsB
  rw [List.all_eq_true]
  exact ⟨fun h e he => of_decide_eq_true (h e he), fun h e he => decide_eq_true (h e he)⟩
theorem fits_told {ws : List Wal} {ls : List Lnk} {x : List Int} : fitsB (toldOf ws ls) x = fitsB (stepsOf ws ls) x := by
  rw [Bool.eq_iff_iff, fits_iff, fits_iff]
  exact ⟨fun h e he => told_shape h e (steps_lims.mp he), fun h e he => h e (steps_lims.mpr (told_sub he))⟩
def shapesL (ws : List Wal) (ls : List Lnk) : List (List Int) := (listL (topsOf ws)).filter (fitsB (stepsOf ws ls))
theorem mem_shapes {ws : List Wal} {ls : List Lnk} {x : List Int} : x ∈ shapesL ws ls ↔ InT (topsOf ws) x ∧ fitsB (stepsOf ws ls) x = true := by
  unfold shapesL
  rw [List.mem_filter, mem_listL]
theorem inN {n : Nat} {z : Int} (z1 : -1 ≤ z) (z2 : z < n) : z ∈ nodesI n := by
  have := atI_nodes z1 z2
  obtain ⟨j, _, h, _⟩ := atI_get this
  exact List.mem_of_getElem? h
section
variable {ws : List Wal} {ls : List Lnk} {a b : Int}
theorem lim_max (S : Shaped ws ls) {x : List Int} (hx : fitsB (stepsOf ws ls) x = true) (ha : -1 ≤ a ∧ a < (places ws : Nat)) (hb : -1 ≤ b ∧ b < (places ws : Nat)) : pot x b - pot x a ≤ limOf ws ls a b := by
  rw [← fits_told, fits_iff] at hx
  exact (least_is (told_uniq ws ls) (told_nodes S.ld) (told_full ws ls) (told_home S.ld) ha.1 ha.2 hb.1 hb.2).pot hx
/-- the shape that lies as high as it can above a node -/
def highOf (ws : List Wal) (ls : List Lnk) (a : Int) : List Int := (List.range (places ws)).map fun (v : Nat) => limOf ws ls a (v : Int) - limOf ws ls a (-1)
theorem pot_high {v : Int} (hv : -1 ≤ v ∧ v < (places ws : Nat)) : pot (highOf ws ls a) v = limOf ws ls a v - limOf ws ls a (-1) := by
  by_cases c : v = -1
  · subst c
    have : pot (highOf ws ls a) (-1) = 0 := rfl
    omega
  · obtain ⟨i, rfl⟩ : ∃ i : Nat, v = (i : Int) := ⟨v.toNat, by omega⟩
    unfold highOf
    rw [pot_nat, List.getD_eq_getElem?_getD, List.getElem?_map, List.getElem?_range (by omega)]
    rfl
theorem high_fits (S : Shaped ws ls) (ha : -1 ≤ a ∧ a < (places ws : Nat)) : fitsB (stepsOf ws ls) (highOf ws ls a) = true := by
  obtain ⟨pi, hp⟩ := S.sh
  rw [← fits_told, fits_iff]
  intro e he
  obtain ⟨⟨m1, m2⟩, o1, o2⟩ := told_nodes S.ld e he
  rw [pot_high ⟨m1, m2⟩, pot_high ⟨o1, o2⟩]
  have w := least_is (told_uniq ws ls) (told_nodes S.ld) (told_full ws ls) (told_home S.ld) ha.1 ha.2 m1 m2
  have g : limOf ws ls a e.2.1 ≤ limOf ws ls a e.1 + e.2.2 := least_le hp (told_uniq ws ls) ha.1 ha.2 o1 o2 (.snoc e w (inN m1 m2) he rfl)
  omega
theorem high_in (S : Shaped ws ls) (ha : -1 ≤ a ∧ a < (places ws : Nat)) : InT (topsOf ws) (highOf ws ls a) := by
  have f := fits_iff.mp (high_fits S ha)
  have len : (highOf ws ls a).length = places ws := by
    unfold highOf
    rw [List.length_map, List.length_range]
  refine InT.of (len.trans (tops_places ws).symm) fun i t h e1 e2 => ?_
  obtain ⟨g1, g2⟩ := ground_in (topsOf ws) 0 i e1
  rw [Int.zero_add] at g1 g2
  have q1 := f _ (steps_lims.mpr (by unfold limsOf; exact List.mem_append_left _ (List.mem_append_left _ g1)))
  have q2 := f _ (steps_lims.mpr (by unfold limsOf; exact List.mem_append_left _ (List.mem_append_left _ g2)))
  have p0 : pot (highOf ws ls a) (-1) = 0 := rfl
  have p1 : pot (highOf ws ls a) (i : Int) = h := by
    rw [pot_nat, List.getD_eq_getElem?_getD, e2]
    rfl
  simp only [p0, p1] at q1 q2
  omega
theorem lim_self (S : Shaped ws ls) (ha : -1 ≤ a ∧ a < (places ws : Nat)) : limOf ws ls a a = 0 := by
  obtain ⟨pi, hp⟩ := S.sh
  have h0 : limOf ws ls a a ≤ 0 := least_le hp (told_uniq ws ls) ha.1 ha.2 ha.1 ha.2 (.nil a)
  have h1 : pi a - pi a ≤ limOf ws ls a a := (least_is (told_uniq ws ls) (told_nodes S.ld) (told_full ws ls) (told_home S.ld) ha.1 ha.2 ha.1 ha.2).pot hp
  omega
theorem lim_got (S : Shaped ws ls) (ha : -1 ≤ a ∧ a < (places ws : Nat)) (hb : -1 ≤ b ∧ b < (places ws : Nat)) : ∃ x ∈ shapesL ws ls, pot x b - pot x a = limOf ws ls a b := by
  refine ⟨highOf ws ls a, mem_shapes.mpr ⟨high_in S ha, high_fits S ha⟩, ?_⟩
  rw [pot_high ha, pot_high hb, lim_self S ha]
  omega
/-- the greatest difference of the listing -/
def bestL (xs : List (List Int)) (a b : Int) : Int := xs.foldl (fun m x => if pot x b - pot x a > m then pot x b - pot x a else m) (-99)
theorem best_fold (a b : Int) : ∀ (xs : List (List Int)) (m : Int), m ≤ xs.foldl (fun m x => if pot x b - pot x a > m then pot x b - pot x a else m) m ∧
    (∀ x ∈ xs, pot x b - pot x a ≤ xs.foldl (fun m x => if pot x b - pot x a > m then pot x b - pot x a else m) m) ∧
    (xs.foldl (fun m x => if pot x b - pot x a > m then pot x b - pot x a else m) m = m ∨ ∃ x ∈ xs, pot x b - pot x a = xs.foldl (fun m x => if pot x b - pot x a > m then pot x b - pot x a else m) m)
  | [], m => ⟨Int.le_refl _, (fun _ z => nomatch z), .inl rfl⟩
  | x :: xs, m => by
    obtain ⟨h1, h2, h3⟩ := best_fold a b xs (if pot x b - pot x a > m then pot x b - pot x a else m)
    rw [List.foldl_cons]
    have g : m ≤ (if pot x b - pot x a > m then pot x b - pot x a else m) ∧ pot x b - pot x a ≤ (if pot x b - pot x a > m then pot x b - pot x a else m) := by
      split <;> omega
    refine ⟨Int.le_trans g.1 h1, fun y hy => ?_, ?_⟩
    · rcases List.mem_cons.mp hy with rfl | hy
      · exact Int.le_trans g.2 h1
      · exact h2 y hy
    · rcases h3 with h3 | ⟨y, hy, h3⟩
      · rw [h3]
        split
        · exact .inr ⟨x, List.mem_cons_self, rfl⟩
        · exact .inl rfl
      · exact .inr ⟨y, List.mem_cons_of_mem _ hy, h3⟩
theorem pot_small {x : List Int} {m v : Int} (m0 : 0 ≤ m) (h : ∀ z ∈ x, 0 ≤ z ∧ z ≤ m) : 0 ≤ pot x v ∧ pot x v ≤ m := by
  unfold pot
  split
  · omega
  · rw [List.getD_eq_getElem?_getD]
    cases e : x[v.toNat]? with
    | none => exact ⟨Int.le_refl _, m0⟩
    | some z => exact h z (List.mem_of_getElem? e)
theorem best_lim (S : Shaped ws ls) (hm : ∀ t ∈ topsOf ws, t ≤ 50) (ha : -1 ≤ a ∧ a < (places ws : Nat)) (hb : -1 ≤ b ∧ b < (places ws : Nat)) : bestL (shapesL ws ls) a b = limOf ws ls a b := by
  obtain ⟨x, hx, e⟩ := lim_got S ha hb
  obtain ⟨h1, h2, h3⟩ := best_fold a b (shapesL ws ls) (-99)
  have hx2 := h2 x hx
  have sm := InT.all (mem_shapes.mp hx).1 hm
  have p1 := pot_small (v := a) (by decide) sm
  have p2 := pot_small (v := b) (by decide) sm
  show (shapesL ws ls).foldl _ (-99) = _
  rcases h3 with h3 | ⟨y, hy, h3⟩
  · omega
  · have := lim_max S (mem_shapes.mp hy).2 ha hb
    omega
end
end Law
namespace Law
open PySem PySem.Spec PyProof.Rows L2 Sup
abbrev sLFi : Stmt := top 50
def spLFi : Sp := fun vs H Q _ => ∃ (u h : Addr) (es : List Edge) (x : List Int), vs = [.ref u, .ref h] ∧ LimsAt H u es ∧ H h = some (.lst (x.map V.int)) ∧ inNodes x.length es ∧ x.length ≤ 100 ∧ ∀ H', Same H H' → Q (.bl (fitsB es x)) H'
theorem at_levels {x : List Int} {a : Int} (h1 : -1 ≤ a) (h2 : a < x.length) : atI (x.map V.int ++ [V.int 0]) a = some (.int (pot x a)) := by
  by_cases c : a = -1
  · subst c
    exact atI_last _ _
  · obtain ⟨i, rfl⟩ : ∃ i : Nat, a = (i : Int) := ⟨a.toNat, by omega⟩
    have hi : i < x.length := by omega
    refine atI_nat ?_
    rw [List.getElem?_append_left (by rw [List.length_map]; exact hi), List.getElem?_map, List.getElem?_eq_getElem hi, pot_nat, List.getD_eq_getElem?_getD, List.getElem?_eq_getElem hi]
    rfl
section
variable {P : Program} {w : World} {K : PySem.W.Frag} {mg : Str → Option Value} {base : Heap}
theorem scLFi : FnScope ["_law_steps_here", "_law_heights", "_law_levels", "_law_first", "_law_second", "_law_limit"] ["_law_steps_here", "_law_heights"] (defScope sLFi) := ⟨rfl, rfl, rfl, by decide +kernel, rfl, by decide +kernel, by decide +kernel⟩
set_option maxHeartbeats 0 in
theorem ok_lfi {f : Addr} {fd : FuncData} (F : Fun K "_law_fits" "_law_fits" sLFi f fd) : FnOk P w K mg base CX0 1 f fd ["_law_steps_here", "_law_heights"] spLFi := by
  refine F.ok scLFi (fun vs H Q E h => ?_) (fun cdv A outer s H vs Q E hr h => ?_)
  · obtain ⟨u, h, es, x, rfl, _⟩ := h
    rfl
  · obtain ⟨u, hd, es, x, rfl, hL, hx, hn, hl, k⟩ := h
    refine ⟨_, (pss_cons (ps_set (i := 2) scLFi.nd rfl (Or.inl rfl) (pe_op op_cat (pv 1) (pe_lst (pa_cons pe_int pa_nil))))
      (pss_cons (ps_for PassesOwn.never rfl (pi_list (pv 0)) (pg_tup (by rfl) (pgs_cons (pg_name (i := 3) scLFi.nd rfl (Or.inl rfl)) (pgs_cons (pg_name (i := 4) scLFi.nd rfl (Or.inl rfl)) (pgs_cons (pg_name (i := 5) scLFi.nd rfl (Or.inl rfl)) pgs_nil)))) (pss_one (ps_if (pt_cmpR op_gt (pe_op op_sub (pe_ix ix_list (pv 2) (pv 4) (fun _ _ => rfl)) (pe_ix ix_list (pv 2) (pv 3) (fun _ _ => rfl))) (pv 5) (nomark _)) (pss_one (ps_ret pe_bl)) pss_nil)))
      (pss_one (ps_ret pe_bl)))), ?_⟩
    refine ⟨_, rfl, by show 1 ≤ sizeLine; decide, fun z hz => ⟨hd, z, _, _, rfl, rfl, same_new hz _ _ hx, upd_same, Nat.le_of_lt (small1000 (by rw [List.length_map]; show x.length + 1 ≤ 1000; omega)), fun lv hlv => ?_⟩⟩
    have s1 := same_tr (same_new (o := .lst [V.int 0]) hz) (same_new (o := .lst (x.map V.int ++ [V.int 0])) hlv)
    have e1 : upd (upd H z (.lst [V.int 0])) lv (.lst (x.map V.int ++ [V.int 0])) lv = some (.lst (x.map V.int ++ [V.int 0])) := upd_same
    generalize upd (upd H z (.lst [V.int 0])) lv (.lst (x.map V.int ++ [V.int 0])) = H1 at s1 e1 ⊢
    obtain ⟨ts, t1, t2, t3⟩ := id (hL.same s1)
    refine ⟨_, rfl, u, rfl, ⟨_, SqL.of t1⟩, ?_⟩
    refine for_it (walk_list (xs := ts.map V.ref)) (fun i σ' H' => ∃ v3 v4 v5 : Option V, σ' = [some (.ref u), some (.ref hd), some (.ref lv), v3, v4, v5] ∧ H' = H1 ∧ fitsB (es.take i) x = true)
      ⟨_, _, _, rfl, rfl, rfl⟩ (fun i σ' H' _ h => by obtain ⟨_, _, _, _, rfl, _⟩ := h; exact SqL.of t1) ?_ ?_
    · rintro i y σ' H2 H3 hi ⟨v3, v4, v5, rfl, rfl, ft⟩ ⟨rfl, hy⟩
      rw [List.length_map] at hi
      rw [List.getElem?_map, List.getElem?_eq_getElem hi] at hy
      cases hy
      obtain ⟨e, he⟩ : ∃ e, es[i]? = some e := ⟨_, List.getElem?_eq_getElem (by omega)⟩
      have z1 := t3 i _ _ (List.getElem?_eq_getElem hi) he
      obtain ⟨⟨n1, n2⟩, n3, n4⟩ := hn e (List.mem_of_getElem? he)
      refine ⟨_, _, rfl, SqT.of z1, rfl, _, _, rfl, _, _, rfl, _, _, rfl, rfl, ?_⟩
      refine ⟨_, rfl, _, rfl, lv, _, _, _, rfl, rfl, SqL.of e1, at_levels n3 n4, _, rfl, _, rfl, lv, _, _, _, rfl, rfl, SqL.of e1, at_levels n1 n2, _, _, rfl, rfl, _, rfl, _, _, rfl, rfl, _, rfl, ite2 (fun c => ?_) (fun c => ?_)⟩
      · have c : pot x e.2.1 - pot x e.1 > e.2.2 := of_decide_eq_true c
        have ef : fitsB es x = false := by
          cases q : fitsB es x with
          | false => rfl
          | true =>
            have := fits_iff.mp q e (List.mem_of_getElem? he)
            omega
        exact ef ▸ k _ s1
      · have c : ¬ (pot x e.2.1 - pot x e.1 > e.2.2) := fun z => c (decide_eq_true z)
        refine ⟨_, _, _, rfl, rfl, fits_iff.mpr fun e' he' => ?_⟩
        rw [List.take_succ, he] at he'
        rcases List.mem_append.mp he' with he' | he'
        · exact fits_iff.mp ft e' he'
        · have he' := List.mem_singleton.mp he'
          subst he'
          omega
    rintro σ' H2 ⟨v3, v4, v5, rfl, rfl, ft⟩
    rw [List.length_map, t2, List.take_length] at ft
    exact ft ▸ k _ s1
end
end Law

/-! A site tells whether heights are a shape. -/
namespace Law
open PySem PySem.Spec PyProof.Rows L2 Sup
abbrev sSfi : Stmt := inClass (top 17) 13
def shapeB (ws : List Wal) (ls : List Lnk) (x : List Int) : Bool := decide (x.length = places ws) && fitsB (toldOf ws ls) x
/-- what `fits` reads of a site -/
def SiteF (K : PySem.W.Frag) (CS : Addr) (ws : List Wal) (ls : List Lnk) (H : Hp) (r : Addr) : Prop := ∃ (dx : Addr) (fs : List (Str × V)) (ptd : Addr), H r = some (.ins CS dx fs) ∧ fs.lookup ("size" : Str) = some (.int (places ws : Nat)) ∧ fs.lookup ("fits" : Str) = none ∧ fs.lookup ("_told" : Str) = some (.ref ptd) ∧ H ptd = some (.dT (kvT (toldOf ws ls)))
theorem SiteAt.f {K : PySem.W.Frag} {CS r : Addr} {ws : List Wal} {ls : List Lnk} {H : Hp} (h : SiteAt K CS ws ls H r) : SiteF K CS ws ls H r := by
  obtain ⟨dx, fs, pr, pl, ps, pd, pt, h0, _, _, _, _, _, f1, g1, ptd, plm, t1, t2, m1, m2⟩ := h
  exact ⟨dx, fs, ptd, h0, f1, g1 _ (by decide), t1, t2⟩
theorem SiteF.same {K : PySem.W.Frag} {CS r : Addr} {ws : List Wal} {ls : List Lnk} {H H' : Hp} (h : SiteF K CS ws ls H r) (s : Same H H') : SiteF K CS ws ls H' r := by
  obtain ⟨dx, fs, ptd, h0, a, b, c, d⟩ := h
  exact ⟨dx, fs, ptd, s _ _ h0, a, b, c, s _ _ d⟩
/-- a list is no part of it -/
theorem SiteF.off {K : PySem.W.Frag} {CS r D : Addr} {ws : List Wal} {ls : List Lnk} {H H' : Hp} {xs : List V} (h : SiteF K CS ws ls H r) (hD : H D = some (.lst xs)) (s : SameB D H H') : SiteF K CS ws ls H' r := by
  obtain ⟨dx, fs, ptd, h0, a, b, c, d⟩ := h
  exact ⟨dx, fs, ptd, s _ _ (fun z => by rw [z, hD] at h0; cases h0) h0, a, b, c, s _ _ (fun z => by rw [z, hD] at d; cases d) d⟩
def spSfi (K : PySem.W.Frag) (CS : Addr) : Sp := fun vs H Q _ => ∃ (r h : Addr) (ws : List Wal) (ls : List Lnk) (x : List Int), vs = [.ref r, .ref h] ∧ SiteF K CS ws ls H r ∧ H h = some (.lst (x.map V.int)) ∧ x.length ≤ 100 ∧ linksDue (places ws : Nat) ls = none ∧ (toldOf ws ls).length ≤ 900 ∧ ∀ H', Same H H' → Q (.bl (shapeB ws ls x)) H'
structure SfTxt (K : PySem.W.Frag) (mg : Str → Option Value) (CS : Addr) : Prop where
  cl : Cls K CS
  na : ∀ m ∈ (["_rows", "_links", "_spots", "_places", "_tops", "size", "_told", "_limits"] : List Str), NoAttr K CS m
  b_len : mg "len" = none
  b_all : mg "all" = none
theorem all_take {es : List Edge} {x : List Int} : ((es.map fun e => decide (pot x e.2.1 - pot x e.1 ≤ e.2.2)).all id) = fitsB es x := by
  unfold fitsB
  rw [List.all_map]
  rfl
section
variable {P : Program} {w : World} {K : PySem.W.Frag} {mg : Str → Option Value} {base : Heap} {CS : Addr}
theorem scSfi : FnScope ["self", "heights", "levels", "first", "second", "most"] ["self", "heights"] (defScope sSfi) := ⟨rfl, rfl, rfl, by decide +kernel, rfl, by decide +kernel, by decide +kernel⟩
set_option maxHeartbeats 0 in
theorem ok_sfi {f : Addr} {fd : FuncData} (F : Fun K "fits" "Site.fits" sSfi f fd) (T : SfTxt K mg CS) : FnOk P w K mg base CX0 1 f fd ["self", "heights"] (spSfi K CS) := by
  refine F.ok scSfi (fun vs H Q E h => ?_) (fun cdv A outer s H vs Q E hr h => ?_)
  · obtain ⟨r, hd, ws, ls, x, rfl, _⟩ := h
    rfl
  · obtain ⟨r, hd, ws, ls, x, rfl, hS, hx, xl, hld, tl, k⟩ := h
    have hin := told_nodes hld
    refine ⟨_, (pss_cons (ps_if (pt_cmpR op_ne (pe_callB call_len_seq (by rfl) T.b_len PySem.boot_len (pa_cons (pv 1) pa_nil)) (pe_fld (pv 0) rfl) (nomark _)) (pss_one (ps_ret pe_bl)) pss_nil)
      (pss_cons (ps_set (i := 2) scSfi.nd rfl (Or.inr rfl) (pe_lst (StX.pa_star (pv 1) (pa_cons pe_int pa_nil))))
      (pss_one (ps_ret (pe_callB (cr_all (by rfl)) (by rfl) T.b_all (by decide +kernel) (pa_cons (pe_lock (pe_lc (own := [("first", 3), ("second", 4), ("most", 5)]) (g := (gTup K 2 (gCons (gTup K 2 (gCons (gName 3) (gCons (gName 4) gNil))) (gCons (gName 5) gNil)))) (tt := tYes) (by rfl) scSfi.nd (DTX.pi_itemsT (pe_fld (pv 0) rfl)) (blkOk_by (own := [("first", 3), ("second", 4), ("most", 5)]) (N := ["self", "heights", "levels", "first", "second", "most"]) (sc := defScope sSfi) (by decide +kernel)) (fun _ _ _ _ _ => (pg_tup (by rfl) (pgs_cons (pg_tup (by rfl) (pgs_cons (pg_name (i := 3) scSfi.nd rfl (Or.inl rfl)) (pgs_cons (pg_name (i := 4) scSfi.nd rfl (Or.inl rfl)) pgs_nil))) (pgs_cons (pg_name (i := 5) scSfi.nd rfl (Or.inl rfl)) pgs_nil)))) (fun _ _ _ _ _ => pts_nil) (fun _ _ _ _ _ => (pe_cmpR op_le (pe_op op_sub (pe_ix (r := rIxL K) ix_list (pv 2) (pv 4) (fun _ _ => rfl)) (pe_ix (r := rIxL K) ix_list (pv 2) (pv 3) (fun _ _ => rfl))) (pv 5) (nomark _))))) pa_nil)))))), ?_⟩
    obtain ⟨dx, fs, ptd, h0, f1, g1, t1, t2⟩ := id hS
    refine ⟨_, rfl, hd, _, rfl, .inl (SqL.of hx), _, rfl, r, CS, dx, fs, _, rfl, h0, T.cl, T.na _ (by decide), f1, rfl, _, rfl, ite2 (fun c => ?_) (fun c => ?_)⟩
    · have e : shapeB ws ls x = false := by
        unfold shapeB
        rw [Bool.and_eq_false_iff]
        refine .inl (decide_eq_false fun z => ?_)
        rw [List.length_map, z] at c
        simp at c
      exact e ▸ k _ same_rfl
    have xn : x.length = places ws := by
      rw [List.length_map] at c
      simp at c
      omega
    have e0 : shapeB ws ls x = fitsB (toldOf ws ls) x := by
      unfold shapeB
      rw [decide_eq_true xn, Bool.true_and]
    rw [e0] at k
    generalize toldOf ws ls = es at t2 hin k tl
    refine ⟨_, rfl, hd, _, rfl, .inr (SqL.of hx), Nat.le_of_lt (small1000 (by rw [List.length_append, List.length_map]; show x.length + 1 ≤ 1000; omega)), fun lv hlv => ?_⟩
    have s1 := same_new (o := .lst (x.map V.int ++ [V.int 0])) hlv
    have e1 : upd H lv (.lst (x.map V.int ++ [V.int 0])) lv = some (.lst (x.map V.int ++ [V.int 0])) := upd_same
    generalize upd H lv (.lst (x.map V.int ++ [V.int 0])) = H1 at s1 e1 ⊢
    have t3 := s1 _ _ t2
    have h01 := s1 _ _ h0
    refine ⟨ptd, _, t3, trivial, fun od => ?_⟩
    have nr : r ≠ ptd := fun z => by rw [z, t3] at h01; cases h01
    have nl : lv ≠ ptd := fun z => by rw [z, t3] at e1; cases e1
    refine ⟨_, rfl, r, CS, dx, fs, _, rfl, (upd_ne nr).trans h01, T.cl, T.na _ (by decide), t1, ptd, od, _, rfl, upd_same, fun D hD => ?_⟩
    have e2 : upd H1 ptd (.frz od (.dT (kvT es))) lv = some (.lst (x.map V.int ++ [V.int 0])) := (upd_ne nl).trans e1
    have e3 : upd H1 ptd (.frz od (.dT (kvT es))) ptd = some (.frz od (.dT (kvT es))) := upd_same
    have back : ∀ H', Same (upd H1 ptd (.frz od (.dT (kvT es)))) H' → Same H (upd H' ptd (.dT (kvT es))) := fun H' s c o e => by
      have e := s1 _ _ e
      by_cases q : c = ptd
      · subst q
        rw [t3] at e
        rw [upd_same]
        exact e
      · rw [upd_ne q]
        exact s _ _ ((upd_ne q).trans e)
    generalize upd H1 ptd (.frz od (.dT (kvT es))) = H2 at e2 e3 back hD ⊢
    have kl : (kvT es).length = es.length := by unfold kvT; rw [List.length_map]
    refine lc_it DTX.walk_itemsT (fun i H' => H' D = some (.lst (((es.take i).map fun e => decide (pot x e.2.1 - pot x e.1 ≤ e.2.2)).map V.bl)) ∧ Same H2 H') ⟨upd_same, same_new hD⟩ (fun _ _ _ h => h.2 _ _ e3) ?_ ?_
    · rintro i y H3 H4 hi ⟨l1, S3⟩ ⟨T0, q0, kk, vv, g1, rfl, g2, hT, rfl⟩
      rw [kl] at hi
      obtain ⟨⟨u, v, m⟩, he⟩ : ∃ e, es[i]? = some e := ⟨_, List.getElem?_eq_getElem hi⟩
      unfold kvT at g1
      rw [List.getElem?_map, he] at g1
      cases g1
      have sT := same_new (o := .tup [V.ref q0, V.int m]) hT
      obtain ⟨⟨u1, u2⟩, w1, w2⟩ := hin _ (List.mem_of_getElem? he)
      have u2 : u < (places ws : Nat) := u2
      have w2 : v < (places ws : Nat) := w2
      have e4 := sT _ _ (S3 _ _ e2)
      refine ⟨T0, _, rfl, SqT.of upd_same, rfl, _, _, rfl, q0, _, rfl, SqT.of (sT _ _ g2), rfl, _, _, rfl, _, _, rfl, rfl, _, _, rfl, rfl, rfl, ?_⟩
      refine ⟨_, rfl, _, rfl, lv, _, _, _, rfl, rfl, SqL.of e4, at_levels w1 (by omega), _, rfl, _, rfl, lv, _, _, _, rfl, rfl, SqL.of e4, at_levels u1 (by omega), _, _, rfl, rfl, _, rfl, _, _, rfl, rfl, ?_⟩
      refine ⟨_, sT _ _ l1, small1000 (by rw [List.length_map, List.length_map, List.length_take]; omega), ?_, fun c o e => ?_⟩
      · rw [upd_same, List.take_succ, he, List.map_append, List.map_append]
        rfl
      · rw [upd_ne (ne_of_none e hD)]
        exact sT _ _ (S3 _ _ e)
    rintro H3 ⟨l1, S3⟩
    rw [kl, List.take_length] at l1
    have nD : D ≠ ptd := fun z => by rw [z, e3] at hD; cases hD
    refine ⟨S3 _ _ e3, D, _, rfl, SqL.of ((upd_ne nD).trans l1), ?_⟩
    rw [all_take]
    exact k _ (back _ S3)
end
end Law


/-! Trials, the places of trials, edges. -/
namespace Law
open PySem PySem.Spec PyProof.Rows L2 Sup
theorem ps_no {X : Cx} {st : Stmt} : PS X st (fun _ _ _ => False) := ⟨fun _ _ _ _ _ _ h => h.elim⟩
abbrev sTini : Stmt := inClass (top 33) 0
abbrev sCp : Stmt := inClass (top 17) 11
abbrev sCps : Stmt := top 35
theorem upd_upd {H : Hp} {a : Addr} {o o' : HO} : upd (upd H a o) a o' = upd H a o' := by
  funext b
  by_cases hb : b = a
  · rw [hb, upd_same, upd_same]
  · rw [upd_ne hb, upd_ne hb, upd_ne hb]
/-- a trial of the class at CT -/
def Tri (CT : Addr) (H : Hp) (x : Addr) (p h : Int) (r : Bool) : Prop := ∃ dx fs, H x = some (.ins CT dx fs) ∧ fs.lookup ("place" : Str) = some (V.int p) ∧ fs.lookup ("height" : Str) = some (V.int h) ∧ fs.lookup ("reached" : Str) = some (V.bl r) ∧ fs.lookup ("agrees" : Str) = none
theorem Tri.same {CT : Addr} {H H' : Hp} {x : Addr} {p h : Int} {r : Bool} (t : Tri CT H x p h r) (s : Same H H') : Tri CT H' x p h r := by
  obtain ⟨dx, fs, h1, h2⟩ := t
  exact ⟨dx, fs, s _ _ h1, h2⟩
structure TriTxt (K : PySem.W.Frag) (mg : Str → Option Value) (CT : Addr) : Prop where
  tri : mg "Trial" = some (.ref CT)
  cl : Cls K CT
  nP : NoAttr K CT "place"
  nH : NoAttr K CT "height"
  nR : NoAttr K CT "reached"
def spTini (CT : Addr) : Sp := fun vs H Q _ => ∃ (x : Addr) (p h : Int) (r : Bool) (dx : Addr), vs = [.ref x, .int p, .int h, .bl r] ∧ H x = some (.ins CT dx []) ∧
  (∀ fs, fs.lookup ("place" : Str) = some (V.int p) → fs.lookup ("height" : Str) = some (V.int h) → fs.lookup ("reached" : Str) = some (V.bl r) → fs.lookup ("agrees" : Str) = none → Q .non (upd H x (.ins CT dx fs)))
theorem mk_tri {CT : Addr} {p h : Int} {r : Bool} {H1 : Hp} {Q : VK} {E : XK} (h2 : ∀ x H2, H1 x = none → Same H1 H2 → Tri CT H2 x p h r → Q (.ref x) H2) :
    Own.MkS CT (spTini CT) E [.int p, .int h, .bl r] H1 Q := ⟨fun x dx hx hdx hne => by
  refine ⟨x, p, h, r, dx, rfl, upd_same, fun fs l1 l2 l3 l4 => ⟨rfl, ?_⟩⟩
  rw [upd_upd]
  refine h2 x _ hx (fun b o e => ?_) ⟨dx, fs, upd_same, l1, l2, l3, l4⟩
  rw [upd_ne (ne_of_none e hx), upd_ne (ne_of_none e hdx)]
  exact e⟩
abbrev TRow := Int × Int × Bool
def TrisAt (CT : Addr) (H : Hp) (p : Addr) (rows : List TRow) : Prop := ∃ ts : List Addr, H p = some (.lst (ts.map V.ref)) ∧ ts.length = rows.length ∧ ∀ (i : Nat) (t : Addr) (r : TRow), ts[i]? = some t → rows[i]? = some r → Tri CT H t r.1 r.2.1 r.2.2
theorem TrisAt.same {CT : Addr} {H H' : Hp} {p : Addr} {rows : List TRow} (h : TrisAt CT H p rows) (s : Same H H') : TrisAt CT H' p rows := by
  obtain ⟨ts, h1, h2, h3⟩ := h
  exact ⟨ts, s _ _ h1, h2, fun i t r e1 e2 => (h3 i t r e1 e2).same s⟩
def inPl (ws : List Wal) (rows : List TRow) : Prop := ∀ r ∈ rows, 0 ≤ r.1 ∧ r.1 < (places ws : Nat)
def spCp (K : PySem.W.Frag) (CS : Addr) : Sp := fun vs H Q _ => ∃ (r : Addr) (ws : List Wal) (ls : List Lnk) (p : Int), vs = [.ref r, .int p] ∧ SiteAt K CS ws ls H r ∧ (0 ≤ p ∧ p < (places ws : Nat)) ∧ Q .non H
def spCps (K : PySem.W.Frag) (CS CT : Addr) : Sp := fun vs H Q _ => ∃ (r t : Addr) (ws : List Wal) (ls : List Lnk) (rows : List TRow), vs = [.ref r, .ref t] ∧ SiteAt K CS ws ls H r ∧ TrisAt CT H t rows ∧ inPl ws rows ∧ Q .non H
section
variable {P : Program} {w : World} {K : PySem.W.Frag} {mg : Str → Option Value} {base : Heap} {C : Errs} {CS CT : Addr}
theorem scTini : FnScope ["self", "place", "height", "reached"] ["self", "place", "height", "reached"] (defScope sTini) := ⟨rfl, rfl, rfl, by decide +kernel, rfl, by decide +kernel, by decide +kernel⟩
theorem ok_tini {f : Addr} {fd : FuncData} (F : Fun K "__init__" "Trial.__init__" sTini f fd) (T : TriTxt K mg CT) : FnOk P w K mg base CX0 1 f fd ["self", "place", "height", "reached"] (spTini CT) := by
  refine F.ok scTini (fun vs H Q E h => ?_) (fun cdv A outer s H vs Q E hr h => ?_)
  · obtain ⟨x, p, h, r, dx, rfl, _⟩ := h
    rfl
  · obtain ⟨x, p, h, r, dx, rfl, hx, k⟩ := h
    refine ⟨_, (pss_cons (ps_fld (pv 0) (pv 1) rfl)
      (pss_cons (ps_fld (pv 0) (pv 2) rfl)
      (pss_one (ps_fld (pv 0) (pv 3) rfl)))), ?_⟩
    refine ⟨_, rfl, _, rfl, x, CT, dx, _, rfl, hx, T.cl, T.nP, by show 0 < 1000; decide, ?_⟩
    refine ⟨_, rfl, _, rfl, x, CT, dx, _, rfl, upd_same, T.cl, T.nH, by show 1 < 1000; decide, ?_⟩
    refine ⟨_, rfl, _, rfl, x, CT, dx, _, rfl, upd_same, T.cl, T.nR, by show 2 < 1000; decide, ?_⟩
    rw [upd_upd, upd_upd]
    exact k _ rfl rfl rfl rfl
theorem scCp : FnScope ["self", "place"] ["self", "place"] (defScope sCp) := ⟨rfl, rfl, rfl, by decide +kernel, rfl, by decide +kernel, by decide +kernel⟩
theorem scCps : FnScope ["site", "trials", "trial"] ["site", "trials"] (defScope sCps) := ⟨rfl, rfl, rfl, by decide +kernel, rfl, by decide +kernel, by decide +kernel⟩
set_option maxHeartbeats 0 in
theorem ok_cp {f : Addr} {fd : FuncData} (F : Fun K "check_place" "Site.check_place" sCp f fd) (T : MeTxt K mg CS) : FnOk P w K mg base CX0 1 f fd ["self", "place"] (spCp K CS) := by
  refine F.ok scCp (fun vs H Q E h => ?_) (fun cdv A outer s H vs Q E hr h => ?_)
  · obtain ⟨r, ws, ls, p, rfl, _⟩ := h
    rfl
  · obtain ⟨r, ws, ls, p, rfl, hS, hp, k⟩ := h
    refine ⟨_, (pss_one (ps_if (pt_not (pt_chain op_le op_lt pe_int (pv 1) (pe_fld (pv 0) rfl))) (pss_one ps_no) pss_nil)), ?_⟩
    obtain ⟨dx, fs, pr, pl, ps, pd, pt, h0, _, _, _, _, _, f1, g1, _⟩ := id hS
    refine ⟨_, rfl, _, _, rfl, rfl, _, rfl, if_t (decide_eq_true hp.1) ⟨_, rfl, r, CS, dx, fs, _, rfl, h0, T.cl, T.na _ (by decide), f1, _, _, rfl, rfl, _, rfl, if_f (by rw [decide_eq_true hp.2]; rfl) k⟩⟩
set_option maxHeartbeats 0 in
theorem ok_cps {f fCp : Addr} {fd : FuncData} (F : Fun K "check_places" "check_places" sCps f fd) (GCp : FnR P w K mg base CX0 1 fCp (spCp K CS)) (MCp : Meth K CS "check_place" fCp) (T : MeTxt K mg CS) (TT : TriTxt K mg CT) : FnOk P w K mg base CX0 2 f fd ["site", "trials"] (spCps K CS CT) := by
  refine F.ok scCps (fun vs H Q E h => ?_) (fun cdv A outer s H vs Q E hr h => ?_)
  · obtain ⟨r, t, ws, ls, rows, rfl, _⟩ := h
    rfl
  · obtain ⟨r, t, ws, ls, rows, rfl, hS, hT, hp, k⟩ := h
    have hr1 : Room 1 _ := hr.mono (by decide)
    refine ⟨_, (pss_one (ps_for PassesOwn.never rfl (pi_list (pv 1)) (pg_name (i := 2) scCps.nd rfl (Or.inl rfl)) (pss_one (ps_expr (Own.pe_methW (E := fun _ => E0) (pv 0) T.cl MCp GCp hr1 (passS pass0) (pa_cons (pe_fld (pv 2) rfl) pa_nil)))))), ?_⟩
    obtain ⟨dx, fs, pr, pl, ps, pd, pt, h0, _, _, _, _, _, f1, g1, _⟩ := id hS
    obtain ⟨ts, t1, t2, t3⟩ := id hT
    refine ⟨_, rfl, t, rfl, ⟨_, SqL.of t1⟩, ?_⟩
    refine for_it (walk_list (xs := ts.map V.ref)) (fun i σ' H' => ∃ v2 : Option V, σ' = [some (.ref r), some (.ref t), v2] ∧ H' = H)
      ⟨_, rfl, rfl⟩ (fun i σ' H' _ h => by obtain ⟨_, _, rfl⟩ := h; exact SqL.of t1) ?_ ?_
    · rintro i y σ' H2 H3 hi ⟨v2, rfl, rfl⟩ ⟨rfl, hy⟩
      rw [List.length_map] at hi
      rw [List.getElem?_map, List.getElem?_eq_getElem hi] at hy
      cases hy
      obtain ⟨x, hx⟩ : ∃ x, rows[i]? = some x := ⟨_, List.getElem?_eq_getElem (by omega)⟩
      obtain ⟨dt, ft, a1, a2, a3, a4, _⟩ := t3 i _ _ (List.getElem?_eq_getElem hi) hx
      exact ⟨_, rfl, r, dx, fs, rfl, h0, g1 _ (by decide), _, rfl, _, CT, dt, ft, _, rfl, a1, TT.cl, TT.nP, a2, r, ws, ls, _, rfl, hS, hp x (List.mem_of_getElem? hx), _, rfl, rfl⟩
    · rintro σ' H2 ⟨v2, rfl, rfl⟩
      exact k
end
end Law

/-! The rows of the law: trials drawn, made, judged. -/
namespace Law
open PySem PySem.Spec PyProof.Rows L2 Sup ItSeq
abbrev sTrs : Stmt := top 46
abbrev sTrl : Stmt := top 47
abbrev sBig : Stmt := top 48
abbrev Tr := TRow
def rowV (q : Tr) : List V := [.int q.1, .int q.2.1, .bl q.2.2]
def RowsT (H : Hp) (ts : List Addr) (rows : List Tr) : Prop := ts.length = rows.length ∧ ∀ (i : Nat) (t : Addr) (q : Tr), ts[i]? = some t → rows[i]? = some q → H t = some (.tup (rowV q))
theorem RowsT.same {H H' : Hp} {ts : List Addr} {rows : List Tr} (h : RowsT H ts rows) (s : Same H H') : RowsT H' ts rows := ⟨h.1, fun i t q e1 e2 => s _ _ (h.2 i t q e1 e2)⟩
theorem RowsT.sameB {H H' : Hp} {b l : Addr} {ts : List Addr} {rows : List Tr} (h : RowsT H ts rows) (B : Box H b l) (s : SameB b H H') : RowsT H' ts rows := ⟨h.1, fun i t q e1 e2 => s _ _ (B.neT (h.2 i t q e1 e2)) (h.2 i t q e1 e2)⟩
theorem RowsT.keep {H H' : Hp} {ts : List Addr} {rows : List Tr} (h : RowsT H ts rows) (s : ∀ c xs, H c = some (.tup xs) → H' c = some (.tup xs)) : RowsT H' ts rows := ⟨h.1, fun i t q e1 e2 => s _ _ (h.2 i t q e1 e2)⟩
theorem RowsT.snoc {H : Hp} {ts : List Addr} {rows : List Tr} {t : Addr} {q : Tr} (h : RowsT H ts rows) (e : H t = some (.tup (rowV q))) : RowsT H (ts ++ [t]) (rows ++ [q]) := by
  refine ⟨by rw [List.length_append, List.length_append, h.1]; rfl, fun i u z e1 e2 => ?_⟩
  by_cases c : i < ts.length
  · rw [List.getElem?_append_left c] at e1
    rw [List.getElem?_append_left (by rw [← h.1]; exact c)] at e2
    exact h.2 i u z e1 e2
  · rw [List.getElem?_append_right (by omega)] at e1
    rw [List.getElem?_append_right (by rw [← h.1]; omega), ← h.1] at e2
    have i0 : i - ts.length = 0 := by
      have := (List.getElem?_eq_some_iff.mp e1).1
      simp at this
      omega
    rw [i0] at e1 e2
    cases e1
    cases e2
    exact e
theorem Box.neNs0 {H : Hp} {b l c : Addr} {xs : List Int} (B : Box H b l) (h : H c = some (.lst (xs.map V.int))) : c ≠ b := fun z => by
  obtain ⟨ns, i, q, s, h1, _⟩ := B
  rw [z, h1] at h
  have e := HO.lst.inj (Option.some.inj h)
  cases xs with
  | nil => cases e
  | cons n ns => cases e
def Near (n : Nat) (q : Tr) : Prop := 0 ≤ q.1 ∧ q.1 < n ∧ q.2.1.natAbs ≤ 10 ^ 31
def spTrs : Sp := fun vs H Q _ => ∃ (b l c : Addr) (xs : List Int) (n tall : Int), vs = [.ref b, .ref c, .int n, .int tall] ∧ Box H b l ∧ H c = some (.lst (xs.map V.int)) ∧ 0 < xs.length ∧ xs.length ≤ 24 ∧ (∀ x ∈ xs, x.natAbs ≤ 10 ^ 30) ∧ 0 ≤ n ∧ n ≤ 60 ∧ 0 ≤ tall ∧ tall ≤ 10 ^ 20 ∧
  ∀ (D : Addr) (ts : List Addr) (rows : List Tr) (H' : Hp), H D = none → H' D = some (.lst (ts.map V.ref)) → RowsT H' ts rows → rows.length = n.toNat → (∀ q ∈ rows, Near xs.length q) → Box H' b l → SameB b H H' → Q (.ref D) H'
def RwAt (H : Hp) (p : Addr) (rows : List TRow) : Prop := ∃ ts : List Addr, H p = some (.lst (ts.map V.ref)) ∧ RowsT H ts rows
theorem RwAt.same {H H' : Hp} {p : Addr} {rows : List TRow} (h : RwAt H p rows) (s : Same H H') : RwAt H' p rows := by
  obtain ⟨ts, h1, h2⟩ := h
  exact ⟨ts, s _ _ h1, h2.same s⟩
theorem RwAt.draw {H H' : Hp} {p b l : Addr} {rows : List TRow} (h : RwAt H p rows) (B : Box H b l) (s : SameB b H H') : RwAt H' p rows := by
  obtain ⟨ts, h1, h2⟩ := h
  exact ⟨ts, s _ _ (B.neL3 h1) h1, h2.sameB B s⟩
def spTrl (CT : Addr) : Sp := fun vs H Q _ => ∃ (a : Addr) (rows : List TRow), vs = [.ref a] ∧ RwAt H a rows ∧ rows.length ≤ 900 ∧
  ∀ (D : Addr) (H' : Hp), H D = none → TrisAt CT H' D rows → Same H H' → Q (.ref D) H'
/-- heights agree with a row, with rows -/
def agR (x : List Int) (r : TRow) : Bool := decide (x.getD r.1.toNat 0 ≤ r.2.1) == r.2.2
def agB (x : List Int) (rows : List TRow) : Bool := rows.all (agR x)
structure LTxt (mg : Str → Option Value) (CT fT : Addr) : Prop where
  tri : mg "Trial" = some (.ref CT)
  take : mg "_law_take" = some (.ref fT)
  b_len : mg "len" = none
  b_range : mg "range" = none
section
variable {P : Program} {w : World} {K : PySem.W.Frag} {mg : Str → Option Value} {base : Heap} {CT fT : Addr}
theorem scTrs : FnScope ["_law_box_here", "_law_truth_here", "_law_count", "_law_tall", "_law_rows", "_law_k", "_law_place", "_law_height", "_law_wide", "_law_reached"] ["_law_box_here", "_law_truth_here", "_law_count", "_law_tall"] (defScope sTrs) := ⟨rfl, rfl, rfl, by decide +kernel, rfl, by decide +kernel, by decide +kernel⟩
theorem ok_trs {f : Addr} {fd fdT : FuncData} (F : Fun K "_law_tries" "_law_tries" sTrs f fd) (GT : FnOk P w K mg base CX0 1 fT fdT ["_law_box_here", "_law_size"] spTake) (FT : Fun K "_law_take" "_law_take" sTake fT fdT) (bT : Binds K fdT ["_law_box_here", "_law_size"] []) (T : LTxt mg CT fT) :
    FnOk P w K mg base CX0 2 f fd ["_law_box_here", "_law_truth_here", "_law_count", "_law_tall"] spTrs := by
  refine F.ok scTrs (fun vs H Q E h => ?_) (fun cdv A outer s H vs Q E hr h => ?_)
  · obtain ⟨b, l, c, xs, n, tall, rfl, _⟩ := h
    rfl
  · obtain ⟨b, l, c, xs, n, tall, rfl, B, hc, x0, x24, hxs, n0, n60, t0, t20, k⟩ := h
    have hr1 : Room 1 _ := hr
    refine ⟨_, (pss_cons (ps_set (i := 4) scTrs.nd rfl (Or.inl rfl) (pe_lst pa_nil))
      (pss_cons (ps_for PassesOwn.never rfl (pi_range1 (by rfl) T.b_range (pa_cons (pv 2) pa_nil)) (pg_name (i := 5) scTrs.nd rfl (Or.inl rfl)) (pss_cons (ps_set (i := 6) scTrs.nd rfl (Or.inl rfl) (pe_call GT hr1 rfl T.take FT.kp bT .nil pass0 (pa_cons (pv 0) (pa_cons (pe_callB call_len_seq (by rfl) T.b_len PySem.boot_len (pa_cons (pv 1) pa_nil)) pa_nil))))
      (pss_cons (ps_set (i := 7) scTrs.nd rfl (Or.inl rfl) (pe_op op_sub (pe_op op_add (pe_ix ix_list (pv 1) (pv 6) (fun _ _ => rfl)) (pe_call GT hr1 rfl T.take FT.kp bT .nil pass0 (pa_cons (pv 0) (pa_cons pe_int pa_nil)))) pe_int))
      (pss_cons (ps_set (i := 8) scTrs.nd rfl (Or.inl rfl) (pe_op op_sub (pe_call GT hr1 rfl T.take FT.kp bT .nil pass0 (pa_cons (pv 0) (pa_cons (pe_op op_add (pv 3) pe_int) pa_nil))) pe_int))
      (C8.pss_cut (ps_if (pt_cmpR op_eq (pe_call GT hr1 rfl T.take FT.kp bT .nil pass0 (pa_cons (pv 0) (pa_cons pe_int pa_nil))) pe_int (nomark _)) (pss_one (ps_set (i := 7) scTrs.nd rfl (Or.inl rfl) (pv 8))) pss_nil)
      (pss_cons (ps_set (i := 9) scTrs.nd rfl (Or.inl rfl) (pe_cmpR op_le (pe_ix ix_list (pv 1) (pv 6) (fun _ _ => rfl)) (pv 7) (nomark _)))
      (C8.pss_cut (ps_if (pt_cmpR op_eq (pe_call GT hr1 rfl T.take FT.kp bT .nil pass0 (pa_cons (pv 0) (pa_cons pe_int pa_nil))) pe_int (nomark _)) (pss_one (ps_set (i := 9) scTrs.nd rfl (Or.inl rfl) (pe_not (pv 9)))) pss_nil)
      (pss_one (ps_expr (pe_bm PySem.F.plainAttrs_list PySem.F.slot_list_append PySem.F.type_list_append mt_append (pv 4) (pa_cons (pe_tup (pa_cons (pv 6) (pa_cons (pv 7) (pa_cons (pv 9) pa_nil)))) pa_nil)))))))))))
      (pss_one (ps_ret (pv 4))))), ?_⟩
    refine ⟨by show 0 ≤ sizeLine; decide, fun D hD => ?_⟩
    have B1 := B.at (o := .lst []) (B.free hD)
    have nDb := (B.free hD).1
    have nDl := (B.free hD).2
    have nDc : D ≠ c := fun z => by rw [z, hc] at hD; cases hD
    refine ⟨_, rfl, n, rfl, by omega, by omega, for_range (lo := 0) (n := n.toNat) (fun i σ' H' => ∃ (v5 v6 v7 v8 v9 : Option V) (ts : List Addr) (rows : List Tr), σ' = [some (.ref b), some (.ref c), some (.int n), some (.int tall), some (.ref D), v5, v6, v7, v8, v9] ∧
      H' D = some (.lst (ts.map V.ref)) ∧ RowsT H' ts rows ∧ rows.length = i ∧ (∀ q ∈ rows, Near xs.length q) ∧ Box H' b l ∧ SameB b H H')
      ⟨none, none, none, none, none, [], [], rfl, upd_same, ⟨rfl, fun i t q e => nomatch e⟩, rfl, (fun _ h => nomatch h), B1, fun x o nx e => same_new hD _ _ e⟩ ?_ ?_⟩
    · rintro i σ' H' hi ⟨v5, v6, v7, v8, v9, ts, rows, rfl, eD, hT, rl, hN, B2, s2⟩
      have ncb := B.neNs0 hc
      have hc2 := s2 _ _ ncb hc
      refine ⟨_, rfl, _, rfl, c, _, rfl, .inl (SqL.of hc2), b, l, _, rfl, B2, by rw [List.length_map]; omega, size_fit (by rw [List.length_map]; omega) (by rw [List.length_map]; omega), fun p H3 p0 p1 B3 k3 => ?_⟩
      rw [List.length_map] at p1
      have s3 := s2.trans (SameB.of k3)
      have hc3 := s3 _ _ ncb hc
      obtain ⟨z, hz⟩ : ∃ z, xs[p.toNat]? = some z := ⟨_, List.getElem?_eq_getElem (by omega)⟩
      have hz' : atI (xs.map V.int) p = some (V.int z) := by
        obtain ⟨m, rfl⟩ := Int.eq_ofNat_of_zero_le p0
        exact atI_nat (by rw [List.getElem?_map]; simp at hz; rw [hz]; rfl)
      have hzb := hxs z (List.mem_of_getElem? hz)
      refine ⟨_, rfl, _, rfl, c, _, _, _, rfl, rfl, SqL.of hc3, hz', _, rfl, b, l, _, rfl, B3, by decide, by decide, fun g H4 g0 g1 B4 k4 => ⟨_, _, rfl, rfl, _, _, rfl, rfl, ?_⟩⟩
      have s4 := s3.trans (SameB.of k4)
      refine ⟨_, rfl, _, rfl, _, _, rfl, rfl, b, l, _, rfl, B4, by omega, size_fit (by omega) (by omega), fun wd H5 w0 w1 B5 k5 => ⟨_, _, rfl, rfl, ?_⟩⟩
      have s5 := s4.trans (SameB.of k5)
      have eD5 := (k5 D (Ne.symm nDb)).trans ((k4 D (Ne.symm nDb)).trans ((k3 D (Ne.symm nDb)).trans eD))
      have hT5 := ((hT.sameB B2 (SameB.of k3)).sameB B3 (SameB.of k4)).sameB B4 (SameB.of k5)
      refine ⟨fun σ'' H'' => ∃ hh : Int, σ'' = [some (.ref b), some (.ref c), some (.int n), some (.int tall), some (.ref D), some (.int (0 + (i : Int))), some (.int p), some (.int hh), some (.int (wd - 1)), v9] ∧ hh.natAbs ≤ 10 ^ 31 ∧
        H'' D = some (.lst (ts.map V.ref)) ∧ RowsT H'' ts rows ∧ Box H'' b l ∧ SameB b H H'', ?_, ?_⟩
      · refine ⟨_, rfl, b, l, _, rfl, B5, by decide, by decide, fun y H6 y0 y1 B6 k6 => ⟨rfl, _, rfl, ?_⟩⟩
        have s6 := s5.trans (SameB.of k6)
        have eD6 := (k6 D (Ne.symm nDb)).trans eD5
        have hT6 := hT5.sameB B5 (SameB.of k6)
        refine ite2 (fun _ => ?_) fun _ => ?_
        · exact ⟨_, rfl, wd - 1, rfl, by omega, eD6, hT6, B6, s6⟩
        · exact ⟨z + g - 2, rfl, by omega, eD6, hT6, B6, s6⟩
      rintro σ'' H6 ⟨hh, rfl, hh31, eD6, hT6, B6, s6⟩
      have hc6 := s6 _ _ ncb hc
      refine ⟨_, rfl, _, rfl, c, _, _, _, rfl, rfl, SqL.of hc6, hz', _, rfl, _, _, rfl, rfl, ?_⟩
      refine ⟨fun σ'' H'' => ∃ r : Bool, σ'' = [some (.ref b), some (.ref c), some (.int n), some (.int tall), some (.ref D), some (.int (0 + (i : Int))), some (.int p), some (.int hh), some (.int (wd - 1)), some (.bl r)] ∧
        H'' D = some (.lst (ts.map V.ref)) ∧ RowsT H'' ts rows ∧ Box H'' b l ∧ SameB b H H'', ?_, ?_⟩
      · refine ⟨_, rfl, b, l, _, rfl, B6, by decide, by decide, fun y H7 y0 y1 B7 k7 => ⟨rfl, _, rfl, ?_⟩⟩
        have s7 := s6.trans (SameB.of k7)
        have eD7 := (k7 D (Ne.symm nDb)).trans eD6
        have hT7 := hT6.sameB B6 (SameB.of k7)
        refine ite2 (fun _ => ?_) fun _ => ?_
        · exact ⟨_, rfl, _, rfl, _, rfl, eD7, hT7, B7, s7⟩
        · exact ⟨_, rfl, eD7, hT7, B7, s7⟩
      rintro σ'' H7 ⟨r, rfl, eD7, hT7, B7, s7⟩
      refine ⟨_, rfl, .inl ⟨rfl, _, SqL.of eD7⟩, _, rfl, _, rfl, _, rfl, by show 3 ≤ sizeLine; decide, fun t ht => ?_⟩
      have S8 := same_new (o := .tup [V.int p, V.int hh, V.bl r]) ht
      have e8 : upd H7 t (.tup [V.int p, V.int hh, V.bl r]) t = some (.tup (rowV (p, hh, r))) := upd_same
      have rlt := hT.1
      refine ⟨D, _, _, rfl, rfl, S8 _ _ eD7, small1000 (by rw [List.length_map]; omega), ?_⟩
      have kt : ∀ x ys, upd H7 t (.tup [V.int p, V.int hh, V.bl r]) x = some (.tup ys) → upd (upd H7 t (.tup [V.int p, V.int hh, V.bl r])) D (.lst (ts.map V.ref ++ [V.ref t])) x = some (.tup ys) := fun x ys e => by
        rw [upd_ne (fun z => by rw [z, S8 _ _ eD7] at e; cases e)]
        exact e
      refine ⟨_, _, _, _, _, ts ++ [t], rows ++ [(p, hh, r)], rfl, ?_, ((hT7.same S8).snoc e8).keep kt, by rw [List.length_append, rl]; rfl, fun q hq => ?_, ?_, ?_⟩
      · rw [upd_same, List.map_append]
        rfl
      · rcases List.mem_append.mp hq with hq | hq
        · exact hN q hq
        · rw [List.mem_singleton] at hq
          subst hq
          exact ⟨p0, p1, hh31⟩
      · exact (B7.same S8).at ⟨nDb, nDl⟩
      · intro x o nx e
        rw [upd_ne (ne_of_none e hD)]
        exact S8 _ _ (s7 x o nx e)
    · rintro σ' H' ⟨v5, v6, v7, v8, v9, ts, rows, rfl, eD, hT, rl, hN, B2, s2⟩
      exact ⟨_, rfl, k D ts rows H' hD eD hT rl hN B2 s2⟩
theorem scTrl : FnScope ["_law_rows", "_law_row"] ["_law_rows"] (defScope sTrl) := ⟨rfl, rfl, rfl, by decide +kernel, rfl, by decide +kernel, by decide +kernel⟩
theorem ok_trl {f fI : Addr} {fd : FuncData} (F : Fun K "_law_trials" "_law_trials" sTrl f fd) (MK : Mk K CT fI) (GI : FnR P w K mg base CX0 1 fI (spTini CT)) (T : LTxt mg CT fT) : FnOk P w K mg base CX0 3 f fd ["_law_rows"] (spTrl CT) := by
  refine F.ok scTrl (fun vs H Q E h => ?_) (fun cdv A outer s H vs Q E hr h => ?_)
  · obtain ⟨a, rows, rfl, _⟩ := h
    rfl
  · obtain ⟨a, rows, rfl, ⟨ts, ha, hT⟩, h900, k⟩ := h
    have hr2 : Room 2 _ := hr
    refine ⟨_, (pss_one (ps_ret (pe_lc (own := [("_law_row", 1)]) (g := gName 1) (tt := tYes) (by rfl) scTrl.nd (pi_list (pv 0)) (blkOk_by (own := [("_law_row", 1)]) (N := ["_law_rows", "_law_row"]) (sc := defScope sTrl) (by decide +kernel)) (fun _ _ _ _ _ => pg_name (i := 1) scTrl.nd rfl (Or.inl rfl)) (fun _ _ _ _ _ => pts_nil)
        (fun _ _ _ _ _ => (Own.pe_makeS (E := fun _ => E0) MK GI hr2 rfl T.tri (passS pass0) (pa_cons (pe_ix (r := rIxT K) ix_tup (pv 1) pe_int (fun _ _ => rfl)) (pa_cons (pe_ix (r := rIxT K) ix_tup (pv 1) pe_int (fun _ _ => rfl)) (pa_cons (pe_ix (r := rIxT K) ix_tup (pv 1) pe_int (fun _ _ => rfl)) pa_nil)))))))), ?_⟩
    refine ⟨_, rfl, a, rfl, ⟨_, SqL.of ha⟩, fun D hD => ?_⟩
    have nD : D ≠ a := fun z => by rw [z, ha] at hD; cases hD
    refine lc_list (K := K) (a := a) (xs := ts.map V.ref) (fun i H' => ∃ us : List Addr, H' D = some (.lst (us.map V.ref)) ∧ us.length = i ∧ (∀ (j : Nat) (u : Addr) (q : Tr), us[j]? = some u → rows[j]? = some q → Tri CT H' u q.1 q.2.1 q.2.2) ∧ Same H H')
      ⟨[], upd_same, rfl, (fun _ _ _ h => nomatch h), same_new hD⟩ (fun i H' _ p => by obtain ⟨_, _, _, _, S⟩ := p; exact SqL.of (S _ _ ha)) ?_ ?_
    · rintro i y H' hi ⟨us, eD, ul, hU, S⟩
      rw [List.getElem?_map] at hi
      obtain ⟨t, ht, rfl⟩ : ∃ t, ts[i]? = some t ∧ y = V.ref t := by
        cases e : ts[i]? with
        | none => rw [e] at hi; cases hi
        | some t => rw [e] at hi; exact ⟨t, rfl, (Option.some.inj hi).symm⟩
      have hit := (List.getElem?_eq_some_iff.mp ht).1
      obtain ⟨q, hq⟩ : ∃ q, rows[i]? = some q := ⟨_, List.getElem?_eq_getElem (by rw [← hT.1]; exact hit)⟩
      have et := S _ _ (hT.2 i t q ht hq)
      refine ⟨rfl, _, rfl, t, _, _, _, rfl, rfl, SqT.of et, rfl, _, rfl, t, _, _, _, rfl, rfl, SqT.of et, rfl, _, rfl, t, _, _, _, rfl, rfl, SqT.of et, rfl, ?_⟩
      refine mk_tri fun u H2 hu S2 hU2 => ?_
      have hil := hT.1
      have nu : u ≠ D := fun z => by rw [z, eD] at hu; cases hu
      refine ⟨_, S2 _ _ eD, small1000 (by rw [List.length_map]; omega), us ++ [u], ?_, by rw [List.length_append, ul]; rfl, fun j v q' e1 e2 => ?_, fun x o e => ?_⟩
      · rw [upd_same, List.map_append]
        rfl
      · have kp : ∀ {v : Addr} {p h : Int} {r : Bool}, Tri CT H2 v p h r → Tri CT (upd H2 D (.lst (us.map V.ref ++ [V.ref u]))) v p h r := fun ⟨dx, fs, g1, g2⟩ => ⟨dx, fs, by rw [upd_ne (fun z => by rw [z, S2 _ _ eD] at g1; cases g1)]; exact g1, g2⟩
        by_cases c : j < us.length
        · rw [List.getElem?_append_left c] at e1
          exact kp ((hU j v q' e1 e2).same S2)
        · rw [List.getElem?_append_right (by omega)] at e1
          have j0 : j - us.length = 0 := by
            have := (List.getElem?_eq_some_iff.mp e1).1
            simp at this
            omega
          rw [j0] at e1
          have ej : j = i := by omega
          rw [ej, hq] at e2
          cases e1
          cases e2
          exact kp hU2
      · rw [upd_ne (ne_of_none e hD)]
        exact S2 _ _ (S _ _ e)
    · rintro H' ⟨us, eD, ul, hU, S⟩
      rw [List.length_map] at ul
      exact k D H' hD ⟨us, eD, ul.trans hT.1, hU⟩ S
end
end Law

/-! What the law draws. -/
namespace Law
open PySem PySem.Spec PyProof.Rows L2 Sup ItSeq
theorem Spec.small {tall many : Int} {ws : List Wal} {hs : List Int} (S : Spec tall many ws hs) : ∀ x ∈ hs, 0 ≤ x ∧ x ≤ tall := fun x hx => by
  obtain ⟨i, hi⟩ := List.getElem?_of_mem hx
  have il := (List.getElem?_eq_some_iff.mp hi).1
  have len := S.fits.len
  have tp := tops_places ws
  obtain ⟨t, ht⟩ : ∃ t, (topsOf ws)[i]? = some t := ⟨_, List.getElem?_eq_getElem (by omega)⟩
  obtain ⟨g1, g2⟩ := S.fits.top i t x ht hi
  obtain ⟨w, hw, h1⟩ := List.mem_flatMap.mp (List.mem_of_getElem? ht)
  have := (S.num w hw).1.2
  rw [List.eq_of_mem_replicate h1] at g2
  exact ⟨g1, by omega⟩
structure BgTxt (mg : Str → Option Value) (fT fSc fLk fTr : Addr) : Prop where
  take : mg "_law_take" = some (.ref fT)
  spec : mg "_law_spec" = some (.ref fSc)
  links : mg "_law_links" = some (.ref fLk)
  tries : mg "_law_tries" = some (.ref fTr)
  b_len : mg "len" = none
/-- what is drawn: walls, links, a shape, rows of trials -/
structure Drawn (K : PySem.W.Frag) (many count : Int) (H : Hp) (p q t a : Addr) (ws : List Wal) (ls : List Lnk) (hs : List Int) (rows : List TRow) : Prop where
  W : WalsAt K H p ws
  L : LnksAt K H q ls
  T : H t = some (.lst (hs.map V.int))
  R : RwAt H a rows
  mny : (rows.length : Int) ≤ count + 1
  near : ∀ r ∈ rows, Near hs.length r
  spec : ∃ tall : Int, 0 ≤ tall ∧ tall ≤ 10 ^ 15 ∧ Spec tall many ws hs
  few : ls.length ≤ 2
  link : ∀ x ∈ ls, LinkOk hs x
def spBig (K : PySem.W.Frag) : Sp := fun vs H Q _ => ∃ (b l : Addr) (many count : Int), vs = [.ref b, .int many, .int count] ∧ Box H b l ∧ 1 ≤ many ∧ many ≤ 20 ∧ 0 ≤ count ∧ count ≤ 50 ∧
  ∀ (u p q t a : Addr) (ws : List Wal) (ls : List Lnk) (hs : List Int) (rows : List TRow) (H' : Hp), H' u = some (.tup [.ref p, .ref q, .ref t, .ref a]) → Drawn K many count H' p q t a ws ls hs rows → Box H' b l → SameB b H H' → Q (.ref u) H'
section
variable {P : Program} {w : World} {K : PySem.W.Frag} {mg : Str → Option Value} {base : Heap} {CT fT fSc fLk fTr : Addr}
theorem scBig : FnScope ["_law_box_here", "_law_many", "_law_count", "_law_tall", "_law_shuts", "_law_truth_here", "_law_links_here", "_law_rows"] ["_law_box_here", "_law_many", "_law_count"] (defScope sBig) := ⟨rfl, rfl, rfl, by decide +kernel, rfl, by decide +kernel, by decide +kernel⟩
set_option maxHeartbeats 0 in
theorem ok_big {f : Addr} {fd fdT fdSc fdLk fdTr : FuncData} (F : Fun K "_law_big" "_law_big" sBig f fd)
    (GT : FnOk P w K mg base CX0 1 fT fdT ["_law_box_here", "_law_size"] spTake) (FT : Fun K "_law_take" "_law_take" sTake fT fdT) (bT : Binds K fdT ["_law_box_here", "_law_size"] [])
    (GSc : FnOk P w K mg base CX0 3 fSc fdSc ["_law_box_here", "_law_many", "_law_tall"] (spSpc K)) (FSc : Fun K "_law_spec" "_law_spec" sSpc fSc fdSc) (bSc : Binds K fdSc ["_law_box_here", "_law_many", "_law_tall"] [])
    (GLk : FnOk P w K mg base CX0 2 fLk fdLk ["_law_box_here", "_law_truth_here", "_law_room"] (spLkL K)) (FLk : Fun K "_law_links" "_law_links" sLkL fLk fdLk) (bLk : Binds K fdLk ["_law_box_here", "_law_truth_here", "_law_room"] [])
    (GTr : FnOk P w K mg base CX0 2 fTr fdTr ["_law_box_here", "_law_truth_here", "_law_count", "_law_tall"] spTrs) (FTr : Fun K "_law_tries" "_law_tries" sTrs fTr fdTr) (bTr : Binds K fdTr ["_law_box_here", "_law_truth_here", "_law_count", "_law_tall"] [])
    (T : BgTxt mg fT fSc fLk fTr) : FnOk P w K mg base CX0 4 f fd ["_law_box_here", "_law_many", "_law_count"] (spBig K) := by
  refine F.ok scBig (fun vs H Q E h => ?_) (fun cdv A outer s H vs Q E hr h => ?_)
  · obtain ⟨b, l, many, count, rfl, _⟩ := h
    rfl
  · obtain ⟨b, l, many, count, rfl, B1, m1, m20, c0, c50, k⟩ := h
    have hr3 : Room 3 _ := hr.mono (by decide)
    have hr2 : Room 2 _ := hr.mono (by decide)
    have hr1 : Room 1 _ := hr.mono (by decide)
    refine ⟨_, (pss_cons (ps_set (i := 3) scBig.nd rfl (Or.inl rfl) (pe_ix ix_list (pe_lst (pa_cons pe_int (pa_cons (pe_op op_pow pe_int pe_int) pa_nil))) (pe_call GT hr1 rfl T.take FT.kp bT .nil pass0 (pa_cons (pv 0) (pa_cons pe_int pa_nil))) (fun _ _ => rfl)))
      (pss_cons (ps_asg (pe_call GSc hr3 rfl T.spec FSc.kp bSc .nil pass0 (pa_cons (pv 0) (pa_cons (pv 1) (pa_cons (pv 3) pa_nil)))) (pg_tup (by rfl) (pgs_cons (pg_name (i := 4) scBig.nd rfl (Or.inl rfl)) (pgs_cons (pg_name (i := 5) scBig.nd rfl (Or.inl rfl)) pgs_nil))))
      (pss_cons (ps_set (i := 6) scBig.nd rfl (Or.inl rfl) (pe_call GLk hr2 rfl T.links FLk.kp bLk .nil pass0 (pa_cons (pv 0) (pa_cons (pv 5) (pa_cons (pe_ix ix_list (pe_lst (pa_cons pe_int (pa_cons (pe_op op_pow pe_int pe_int) pa_nil))) (pe_call GT hr1 rfl T.take FT.kp bT .nil pass0 (pa_cons (pv 0) (pa_cons pe_int pa_nil))) (fun _ _ => rfl)) pa_nil)))))
      (pss_cons (ps_set (i := 7) scBig.nd rfl (Or.inl rfl) (pe_call GTr hr2 rfl T.tries FTr.kp bTr .nil pass0 (pa_cons (pv 0) (pa_cons (pv 5) (pa_cons (pv 2) (pa_cons (pv 3) pa_nil))))))
      (C8.pss_cut (ps_if (PW.pt (pw_and (pt_cmpR op_gt (pe_callB call_len_seq (by rfl) T.b_len PySem.boot_len (pa_cons (pv 7) pa_nil)) pe_int (nomark _)) (pw_and1 (pt_cmpR op_eq (pe_call GT hr1 rfl T.take FT.kp bT .nil pass0 (pa_cons (pv 0) (pa_cons pe_int pa_nil))) pe_int (nomark _))))) (pss_one (ps_expr (pe_bm PySem.F.plainAttrs_list PySem.F.slot_list_append PySem.F.type_list_append mt_append (pv 7) (pa_cons (pe_ix ix_list (pv 7) (pe_call GT hr1 rfl T.take FT.kp bT .nil pass0 (pa_cons (pv 0) (pa_cons (pe_callB call_len_seq (by rfl) T.b_len PySem.boot_len (pa_cons (pv 7) pa_nil)) pa_nil))) (fun _ _ => rfl)) pa_nil)))) pss_nil)
      (pss_one (ps_ret (pe_tup (pa_cons (pv 4) (pa_cons (pv 6) (pa_cons (pv 5) (pa_cons (pv 7) pa_nil)))))))))))), ?_⟩
    have szf : ∀ {z : Int}, 0 ≤ z → z ≤ 1000 → z.natAbs < 2 ^ 8000 := fun {z} a b => Nat.lt_of_le_of_lt (show z.natAbs ≤ 1000 by omega) (by decide +kernel)
    refine ⟨_, _, rfl, rfl, pow_ok (by decide), by show 2 ≤ sizeLine; decide, fun lq hlq => ?_⟩
    have nlb := Ne.symm (B1.free hlq).1
    have s2 := same_new (o := .lst [V.int 9, V.int (10 ^ (15 : Int).toNat)]) hlq
    have e2 : upd H lq (.lst [V.int 9, V.int (10 ^ (15 : Int).toNat)]) lq = some (.lst [V.int 9, V.int (10 ^ (15 : Int).toNat)]) := upd_same
    have B2 := B1.same s2
    generalize upd H lq (.lst [V.int 9, V.int (10 ^ (15 : Int).toNat)]) = H2 at e2 B2 s2
    refine ⟨_, rfl, b, l, _, rfl, B2, by decide, by decide, fun r H3 r0 r1 B3 k3 => ?_⟩
    have S3 := (SameB.of_same s2 (b := b)).trans (SameB.of k3)
    obtain ⟨tall, ht, t0, t1⟩ : ∃ tall : Int, atI [V.int 9, V.int (10 ^ (15 : Int).toNat)] r = some (.int tall) ∧ 0 ≤ tall ∧ tall ≤ 10 ^ 15 := by
      have : r = 0 ∨ r = 1 := by omega
      rcases this with rfl | rfl
      · exact ⟨9, rfl, by decide, by decide⟩
      · exact ⟨_, rfl, by decide, by decide⟩
    refine ⟨lq, _, r, _, rfl, rfl, SqL.of ((k3 lq nlb).trans e2), ht, ?_⟩
    clear ht r0 r1 k3 B2 e2 s2 nlb hlq B1
    refine ⟨_, rfl, _, rfl, _, rfl, b, l, _, _, rfl, B3, m1, m20, t0, t1, fun u p t ws hs H4 hu np nt npt W4 T4 B4 S4 Sp => ?_⟩
    refine ⟨_, _, rfl, SqT.of hu, rfl, _, _, rfl, _, _, rfl, rfl, ?_⟩
    have S4 := S3.trans S4
    have hl := Sp.fits.len
    have p1 := Sp.one
    have p6 := Sp.most
    clear hu S3 np nt B3
    refine ⟨_, rfl, _, rfl, _, _, rfl, rfl, pow_ok (by decide), by show 2 ≤ sizeLine; decide, fun lq hlq => ?_⟩
    have nlb := Ne.symm (B4.free hlq).1
    have s5 := same_new (o := .lst [V.int 4, V.int (10 ^ (12 : Int).toNat)]) hlq
    have e5 : upd H4 lq (.lst [V.int 4, V.int (10 ^ (12 : Int).toNat)]) lq = some (.lst [V.int 4, V.int (10 ^ (12 : Int).toNat)]) := upd_same
    have B5 := B4.same s5
    have W5 := W4.same s5
    have T5 := s5 _ _ T4
    generalize upd H4 lq (.lst [V.int 4, V.int (10 ^ (12 : Int).toNat)]) = H5 at e5 B5 W5 T5 s5
    refine ⟨_, rfl, b, l, _, rfl, B5, by decide, by decide, fun r H6 r0 r1 B6 k6 => ?_⟩
    have S6 := (S4.trans (SameB.of_same s5)).trans (SameB.of k6)
    obtain ⟨room, hro, m0, m1⟩ : ∃ room : Int, atI [V.int 4, V.int (10 ^ (12 : Int).toNat)] r = some (.int room) ∧ 1 ≤ room ∧ room ≤ 10 ^ 15 := by
      have : r = 0 ∨ r = 1 := by omega
      rcases this with rfl | rfl
      · exact ⟨4, rfl, by decide, by decide⟩
      · exact ⟨_, rfl, by decide, by decide⟩
    have W6 := W5.sameB B5 (SameB.of k6)
    have T6 := (SameB.of k6) _ _ (B5.neZ T5) T5
    refine ⟨lq, _, r, _, rfl, rfl, SqL.of ((k6 lq nlb).trans e5), hro, ?_⟩
    clear hro r0 r1 k6 B5 e5 s5 nlb hlq B4 W5 T5 W4 T4 S4
    refine ⟨b, l, t, hs, room, rfl, B6, T6, by omega, by omega, m0, m1, fun q ls H7 nq L7 ll lk B7 S7 => ?_⟩
    have W7 := W6.sameB B6 S7
    have T7 := S7 _ _ (B6.neZ T6) T6
    have S7 := S6.trans S7
    clear W6 T6 B6 S6 nq
    refine ⟨_, rfl, _, rfl, _, rfl, _, rfl, b, l, t, hs, count, tall, rfl, B7, T7, by omega, by omega, fun x hx => (by have := Sp.small x hx; omega), c0, by omega, t0, by omega, fun D ts rows H8 hD e8 R8 rl near B8 S8 => ?_⟩
    have W8 := W7.sameB B7 S8
    have L8 := L7.sameB B7 S8
    have T8 := S8 _ _ (B7.neZ T7) T7
    have nDb := (B7.free hD)
    have S9 := S7.trans S8
    refine ⟨fun σ' H' => ∃ rows : List TRow, σ' = [some (.ref b), some (.int many), some (.int count), some (.int tall), some (.ref p), some (.ref t), some (.ref q), some (.ref D)] ∧ Drawn K many count H' p q t D ws ls hs rows ∧ Box H' b l ∧ SameB b H H', ?_, ?_⟩
    · have dr : Drawn K many count H8 p q t D ws ls hs rows := ⟨W8, L8, T8, ⟨ts, e8, R8⟩, by omega, near, ⟨tall, t0, t1, Sp⟩, ll, lk⟩
      refine ⟨_, rfl, D, _, rfl, .inl (SqL.of e8), _, _, rfl, rfl, _, rfl, ite2 (fun c => ?_) (fun c => ?_)⟩
      rotate_left
      · exact ⟨rows, rfl, dr, B8, S9⟩
      have c : 0 < ts.length := by
        have := of_decide_eq_true c
        rw [List.length_map] at this
        omega
      have rt := R8.1
      refine ⟨_, rfl, b, l, _, rfl, B8, by decide, by decide, fun y H9 y0 y1 B9 k9 => ⟨rfl, _, rfl, ?_⟩⟩
      have W9 := W8.sameB B8 (SameB.of k9)
      have L9 := L8.sameB B8 (SameB.of k9)
      have T9 := (SameB.of k9) _ _ (B8.neZ T8) T8
      have e9 := (k9 D (Ne.symm nDb.1)).trans e8
      have R9 := R8.sameB B8 (SameB.of k9)
      have S10 := S9.trans (SameB.of k9)
      refine ite2 (fun _ => ?_) fun _ => ?_
      rotate_left
      · exact ⟨rows, rfl, ⟨W9, L9, T9, ⟨ts, e9, R9⟩, by omega, near, ⟨tall, t0, t1, Sp⟩, ll, lk⟩, B9, S10⟩
      refine ⟨_, rfl, .inl ⟨rfl, _, SqL.of e9⟩, _, rfl, _, rfl, _, rfl, D, _, rfl, .inl (SqL.of e9), b, l, _, rfl, B9, by rw [List.length_map]; omega, szf (by omega) (by rw [List.length_map]; omega), fun ix H10 i0 i1 B10 k10 => ?_⟩
      rw [List.length_map] at i1
      obtain ⟨m, rfl⟩ : ∃ m : Nat, ix = (m : Int) := ⟨ix.toNat, by omega⟩
      have hm : m < ts.length := by omega
      have e10 := (k10 D (Ne.symm nDb.1)).trans e9
      have R10 := R9.sameB B9 (SameB.of k10)
      obtain ⟨qr, hqr⟩ : ∃ e, rows[m]? = some e := ⟨_, List.getElem?_eq_getElem (by omega)⟩
      have et := R10.2 m _ qr (List.getElem?_eq_getElem hm) hqr
      have S710 := (S8.trans (SameB.of k9)).trans (SameB.of k10)
      refine ⟨D, _, _, _, rfl, rfl, SqL.of e10, atI_nat (by rw [List.getElem?_map, List.getElem?_eq_getElem hm]; rfl), D, _, _, rfl, rfl, e10, small1000 (by rw [List.length_map]; omega), ?_⟩
      have SF : SameB b H7 (upd H10 D (.lst (ts.map V.ref ++ [V.ref ts[m]]))) := fun c o nc e => by
        rw [upd_ne (ne_of_none e hD)]
        exact S710 c o nc e
      have kt : ∀ x ys, H10 x = some (.tup ys) → upd H10 D (.lst (ts.map V.ref ++ [V.ref ts[m]])) x = some (.tup ys) := fun x ys e => by
        rw [upd_ne (fun z => by rw [z, e10] at e; cases e)]
        exact e
      refine ⟨rows ++ [qr], rfl, ⟨W7.sameB B7 SF, L7.sameB B7 SF, SF _ _ (B7.neZ T7) T7, ⟨ts ++ [ts[m]], by rw [upd_same, List.map_append]; rfl, (R10.snoc et).keep kt⟩, by rw [List.length_append]; show ((rows.length + 1 : Nat) : Int) ≤ _; omega, fun r hr => ?_, ⟨tall, t0, t1, Sp⟩, ll, lk⟩, B10.at nDb, S7.trans SF⟩
      rcases List.mem_append.mp hr with hr | hr
      · exact near r hr
      · rw [List.mem_singleton] at hr
        subst hr
        exact near _ (List.mem_of_getElem? hqr)
    rintro σ' H11 ⟨rows, rfl, dr, B11, S11⟩
    refine ⟨_, rfl, _, rfl, _, rfl, _, rfl, by show 4 ≤ sizeLine; decide, fun u hu => ?_⟩
    have s12 := same_new (o := .tup [V.ref p, V.ref q, V.ref t, V.ref D]) hu
    exact k u p q t D ws ls hs rows _ upd_same ⟨dr.W.same s12, dr.L.same s12, s12 _ _ dr.T, dr.R.same s12, dr.mny, dr.near, dr.spec, dr.few, dr.link⟩ (B11.same s12) (S11.trans (SameB.of_same s12))
end
end Law


/-! Making the site, reading lists. -/
namespace Law
open PySem PySem.Spec PyProof.Rows L2 Sup
theorem WalsIn.same {K : PySem.W.Frag} {H H' : Hp} {p : Addr} {ws : List Wal} (h : WalsIn K H p ws) (s : Same H H') : WalsIn K H' p ws := by
  obtain ⟨ts, h1, h2, h3⟩ := h
  exact ⟨ts, h1.same s, h2, fun i t w e1 e2 => (h3 i t w e1 e2).same s⟩
theorem LnksIn.same {K : PySem.W.Frag} {H H' : Hp} {p : Addr} {ls : List Lnk} (h : LnksIn K H p ls) (s : Same H H') : LnksIn K H' p ls := by
  obtain ⟨ts, h1, h2, h3⟩ := h
  exact ⟨ts, h1.same s, h2, fun i t w e1 e2 => sqT_same (h3 i t w e1 e2) s⟩
theorem WalsAt.in_ {K : PySem.W.Frag} {H : Hp} {p : Addr} {ws : List Wal} (h : WalsAt K H p ws) : WalsIn K H p ws := by
  obtain ⟨ts, h1, h2, h3⟩ := h
  exact ⟨ts, .inl (SqL.of h1), h2, h3⟩
theorem LnksAt.in_ {K : PySem.W.Frag} {H : Hp} {p : Addr} {ls : List Lnk} (h : LnksAt K H p ls) : LnksIn K H p ls := by
  obtain ⟨ts, h1, h2, h3⟩ := h
  exact ⟨ts, .inl (SqL.of h1), h2, h3⟩
theorem mk_site3 {K : PySem.W.Frag} {C : Errs} {CS pw pk : Addr} {ws : List Wal} {ls : List Lnk} {E : XK} {H1 : Hp} {Q : VK} (hW : WalsIn K H1 pw ws) (hL : LnksIn K H1 pk ls) (l1 : ws.length ≤ 100) (l2 : ls.length ≤ 60) (fW : ∀ w ∈ ws, WFit w) (fL : ∀ l ∈ ls, LFit l)
    (hn : rowsDue [] ws = none) (c : places ws ≤ 24) (hl : linksDue (places ws : Nat) ls = none) (hs : ∃ pi : Int → Int, ∀ e ∈ toldOf ws ls, pi e.2.1 - pi e.1 ≤ e.2.2)
    (ok : ∀ (r : Addr) (H' : Hp), H1 r = none → Same H1 H' → SiteAt K CS ws ls H' r → Q (.ref r) H') : Own.MkS CS (spSini2 K C CS) E [.ref pw, .ref pk] H1 Q := by
  refine ⟨fun x dx nx ndx nn => ?_⟩
  have s0 : Same H1 (upd (upd H1 dx (.own x)) x (.ins CS dx [])) := fun b o e => by
    rw [upd_ne (ne_of_none e nx), upd_ne (ne_of_none e ndx)]
    exact e
  have sb : ∀ {H'}, SameB x (upd (upd H1 dx (.own x)) x (.ins CS dx [])) H' → Same H1 H' := fun {H'} s b o e => s _ _ (ne_of_none e nx) (s0 _ _ e)
  refine ⟨x, dx, pw, pk, ws, ls, rfl, upd_same, hW.same s0, hL.same s0, l1, l2, by omega, fW, fL, fun b hb => (by rw [hn] at hb; cases hb), fun _ => ⟨fun c2 => absurd c2 (by omega), fun _ => ⟨fun z hz => (by rw [hl] at hz; cases hz), fun _ => ⟨fun _ H' s k => ⟨rfl, ?_⟩, fun sh => absurd hs sh⟩⟩⟩⟩
  exact ok x H' nx (sb s) (k H' ⟨fun _ _ e => e, fun _ _ _ e => e, fun _ _ e => e, fun _ _ _ e => e⟩)
theorem rows_none : ∀ (ws : List Wal) (acc : List Str), (∀ w ∈ ws, badN w.1 = false ∧ numDue w.2.1 w.2.2.1 w.2.2.2 = none) → (ws.map (·.1)).Nodup → (∀ w ∈ ws, acc.contains w.1 = false) → rowsDue acc ws = none
  | [], _, _, _, _ => rfl
  | w :: ws, acc, h, nd, ha => by
    obtain ⟨b1, b2⟩ := h w List.mem_cons_self
    unfold rowsDue
    rw [if_neg (by rw [b1]; decide), if_neg (by rw [ha w List.mem_cons_self]; decide), b2]
    rw [List.map_cons, List.nodup_cons] at nd
    refine rows_none ws (acc ++ [w.1]) (fun v hv => h v (List.mem_cons_of_mem _ hv)) nd.2 fun v hv => ?_
    have h1 := ha v (List.mem_cons_of_mem _ hv)
    cases e : (acc ++ [w.1]).contains v.1 with
    | false => rfl
    | true =>
      rw [List.contains_iff_mem] at e
      rcases List.mem_append.mp e with e | e
      · rw [← List.contains_iff_mem, h1] at e
        cases e
      · rw [List.mem_singleton] at e
        exact absurd (List.mem_map.mpr ⟨v, hv, e⟩) nd.1
theorem num_none {tp sl : Int} {spans : List Int} (h0 : 0 ≤ tp) (h1 : 0 ≤ sl) (h2 : ∀ x ∈ spans, 1 ≤ x) : numDue tp sl spans = none := by
  unfold numDue
  rw [if_neg (by omega), if_neg (by omega)]
  refine List.find?_eq_none.mpr fun x hx => ?_
  have := h2 x hx
  simp
  omega
/-- the law's sites are made -/
theorem Spec.rows {tall many : Int} {ws : List Wal} {hs : List Int} (S : Spec tall many ws hs) : rowsDue [] ws = none := by
  refine rows_none ws [] (fun w hw => ⟨?_, ?_⟩) ?_ fun w hw => rfl
  · have hm : w.1 ∈ ws.map (·.1) := List.mem_map.mpr ⟨w, hw, rfl⟩
    rw [S.names] at hm
    have hm := List.mem_of_mem_take hm
    have key : ∀ y ∈ names3, badN y = false := by decide +kernel
    exact key _ hm
  · obtain ⟨⟨a, _⟩, ⟨b, _⟩, c⟩ := S.num w hw
    exact num_none a b fun x hx => (c x hx).1
  · rw [S.names]
    exact (show names3.Nodup by decide +kernel).sublist (List.take_sublist _ _)
theorem links_none {n : Int} {ls : List Lnk} (h : ∀ l ∈ ls, (0 ≤ l.1 ∧ l.1 < n) ∧ (0 ≤ l.2.1 ∧ l.2.1 < n) ∧ l.2.1 ≠ l.1) : linksDue n ls = none := by
  unfold linksDue
  refine List.findSome?_eq_none_iff.mpr fun l hl => ?_
  obtain ⟨a, b, c⟩ := h l hl
  unfold linkDue
  rw [if_neg (fun z => z a), if_neg (fun z => z.elim (fun y => y b) c)]
theorem Spec.shape {tall many : Int} {ws : List Wal} {hs : List Int} {ls : List Lnk} (S : Spec tall many ws hs) (hL : ∀ x ∈ ls, LinkOk hs x) : ∀ e ∈ toldOf ws ls, pot hs e.2.1 - pot hs e.1 ≤ e.2.2 := fun e he => by
  have hl := told_sub he
  unfold limsOf at hl
  have len := S.fits.len
  have tp := tops_places ws
  rcases List.mem_append.mp hl with hl | hl
  · rcases List.mem_append.mp hl with hl | hl
    · obtain ⟨i, t, h1, h2⟩ := ground_mem (topsOf ws) 0 hl
      rw [Int.zero_add] at h2
      have il := (List.getElem?_eq_some_iff.mp h1).1
      obtain ⟨x, hx⟩ : ∃ x, hs[i]? = some x := ⟨_, List.getElem?_eq_getElem (by omega)⟩
      obtain ⟨g1, g2⟩ := S.fits.top i t x h1 hx
      have p0 : pot hs (-1) = 0 := rfl
      have p1 : pot hs (i : Int) = x := by
        rw [pot_nat, List.getD_eq_getElem?_getD, hx]
        rfl
      rcases h2 with rfl | rfl
      · show pot hs (i : Int) - pot hs (-1) ≤ t
        omega
      · show pot hs (-1) - pot hs (i : Int) ≤ 0
        omega
    · exact S.fits.slope e hl
  · obtain ⟨l, hl', h⟩ := link_mem hl
    have k := hL l hl'
    have k1 := k.lo
    have k2 := k.hi
    rcases h with rfl | rfl
    · exact k2
    · show pot hs l.1 - pot hs l.2.1 ≤ -l.2.2.1
      omega
theorem int_ok (n : Int) : PyData.canLay0 (.int n) = true := by simp only [PyData.canLay0]
theorem shaped_int (n : Int) : SeqAt.shaped (.int n) = true := by
  unfold SeqAt.shaped
  rw [int_ok n]
  simp [PyData.depth]
theorem ok_ints : ∀ ns : List Int, PyData.canLayAll0 (ns.map PyData.int) = true
  | [] => by simp only [List.map_nil, PyData.canLayAll0]
  | n :: ns => by
    rw [List.map_cons]
    simp only [PyData.canLayAll0]
    rw [Bool.and_eq_true]
    exact ⟨int_ok n, ok_ints ns⟩
theorem deep_ints : ∀ ns : List Int, PyData.depthAll (ns.map PyData.int) = 0
  | [] => by simp [PyData.depthAll]
  | n :: ns => by
    rw [List.map_cons]
    simp [PyData.depthAll, PyData.depth, deep_ints ns]
theorem shaped_ints (ns : List Int) : SeqAt.shaped (.list (ns.map PyData.int)) = true := by
  unfold SeqAt.shaped
  have e : PyData.canLay0 (.list (ns.map PyData.int)) = true := by
    simp only [PyData.canLay0]
    exact ok_ints ns
  rw [e]
  simp [PyData.depth, deep_ints]
theorem dp_ints {K : PySem.W.Frag} {H : Hp} : ∀ xs : List Int, DpAll K H (xs.map V.int) (xs.map PyData.int)
  | [] => .nil
  | x :: xs => .cons (.int x) (dp_ints xs)
theorem ne_same {K : PySem.W.Frag} {H : Hp} {a b : Addr} {xs : List Int} {Q : VK} (h1 : H a = some (.lst (xs.map V.int))) (h2 : H b = some (.lst (xs.map V.int))) (q : Q (.bl false) H) : rNeD K (.ref a) (.ref b) H Q :=
  ⟨_, _, .lst (SqL.of h1) (dp_ints xs), .lst (SqL.of h2) (dp_ints xs), shaped_ints xs, shaped_ints xs, by rw [eqv_rfl (shaped_ints xs)]; exact q⟩
theorem nodes_none {ws : List Wal} {a b : Int} (ha : -1 ≤ a ∧ a < (places ws : Nat)) (hb : -1 ≤ b ∧ b < (places ws : Nat)) : nodesDue ws a b = none := by
  unfold nodesDue nodeB
  rw [decide_eq_true ha, decide_eq_true hb]
  rfl
theorem nodes_bad1 {ws : List Wal} {a b : Int} (ha : ¬ (-1 ≤ a ∧ a < (places ws : Nat))) : nodesDue ws a b = some a := by
  unfold nodesDue nodeB
  rw [decide_eq_false ha]
  rfl
theorem nodes_bad2 {ws : List Wal} {a b : Int} (ha : -1 ≤ a ∧ a < (places ws : Nat)) (hb : ¬ (-1 ≤ b ∧ b < (places ws : Nat))) : nodesDue ws a b = some b := by
  unfold nodesDue nodeB
  rw [decide_eq_true ha, decide_eq_false hb]
  rfl
theorem SiteAt.draw {K : PySem.W.Frag} {CS r b l : Addr} {ws : List Wal} {ls : List Lnk} {H H' : Hp} (h : SiteAt K CS ws ls H r) (B : Box H b l) (s : SameB b H H') : SiteAt K CS ws ls H' r := by
  obtain ⟨dx, fs, pr, pl, ps, pd, pt, h0, ⟨a1, a2⟩, ⟨b1, b2⟩, ⟨c1, c2⟩, ⟨d1, d2⟩, ⟨e1, e2⟩, f1, g1, ptd, plm, t1, t2, m1, m2⟩ := h
  obtain ⟨_, _, _, _, q, _⟩ := id B
  refine ⟨dx, fs, pr, pl, ps, pd, pt, s _ _ (fun z => by rw [z, q] at h0; cases h0) h0, ⟨a1, a2.sameB B s⟩, ⟨b1, b2.sameB B s⟩, ⟨c1, ?_⟩, ⟨d1, ?_⟩, ⟨e1, s _ _ (B.neZ e2) e2⟩, f1, g1, ptd, plm, t1, s _ _ (fun z => by rw [z, q] at t2; cases t2) t2, m1, ?_⟩
  · obtain ⟨ts, x1, x2, x3⟩ := c2
    exact ⟨ts, s _ _ (B.neL3 x1) x1, x2, fun i t y L y1 y2 => s _ _ (B.neT (x3 i t y L y1 y2)) (x3 i t y L y1 y2)⟩
  · obtain ⟨kv, x1, x2⟩ := d2
    exact ⟨kv, s _ _ (fun z => by rw [z, q] at x1; cases x1) x1, x2⟩
  · obtain ⟨ts, x1, x2, x3⟩ := m2
    exact ⟨ts, s _ _ (B.neL3 x1) x1, x2, fun i t row y1 y2 => s _ _ (B.neZ (x3 i t row y1 y2)) (x3 i t row y1 y2)⟩
theorem steps_nodes {ws : List Wal} {ls : List Lnk} (h : linksDue (places ws : Nat) ls = none) : inNodes (places ws) (stepsOf ws ls) := fun e he => by
  obtain ⟨x, hx, h1, _⟩ := told_less (steps_lims.mp he)
  have g := told_nodes h x hx
  have y := like_iff.mp h1
  rw [y.1, y.2] at g
  exact g
theorem told_few {ws : List Wal} {ls : List Lnk} (h1 : places ws ≤ 24) (h2 : ls.length ≤ 60) : (toldOf ws ls).length ≤ 900 := by
  have a := fold_len (limsOf ws ls) []
  have b := lims_len ws ls
  have a : (toldOf ws ls).length ≤ 0 + (limsOf ws ls).length := a
  omega
/-- what is left of a list but its last -/
def butLast (x : List Int) : List Int := List.take (HT.sIx x.length x.length (some (-1)) - HT.sIx x.length 0 none) (List.drop (HT.sIx x.length 0 none) x)
theorem cut_last (x : List Int) : cutV (x.map V.int) none (some (-1)) = (butLast x).map V.int := by
  unfold cutV butLast
  rw [List.length_map, List.map_take, List.map_drop]
theorem len_last {x : List Int} (h1 : 1 ≤ x.length) (h3 : x.length ≤ 6) : (butLast x).length ≠ x.length ∧ (butLast x).length ≤ 6 := by
  have key : (butLast x).length = x.length - 1 := by
    unfold butLast
    rw [List.length_take, List.length_drop]
    rcases (by omega : x.length = 1 ∨ x.length = 2 ∨ x.length = 3 ∨ x.length = 4 ∨ x.length = 5 ∨ x.length = 6) with e | e | e | e | e | e <;> rw [e] <;> rfl
  omega
theorem shape_not {ws : List Wal} {ls : List Lnk} {x : List Int} (h : x.length ≠ places ws) : shapeB ws ls x = false := by
  unfold shapeB
  rw [decide_eq_false h]
  rfl
theorem shape_is {ws : List Wal} {ls : List Lnk} {x : List Int} (h : x.length = places ws) : shapeB ws ls x = fitsB (stepsOf ws ls) x := by
  unfold shapeB
  rw [decide_eq_true h, fits_told]
  rfl
theorem TabAt.draw {H H' : Hp} {p b l : Addr} {M : List (List Int)} (h : TabAt H p M) (B : Box H b l) (s : SameB b H H') : TabAt H' p M := by
  obtain ⟨ts, x1, x2, x3⟩ := h
  exact ⟨ts, s _ _ (B.neL3 x1) x1, x2, fun i t row y1 y2 => s _ _ (B.neZ (x3 i t row y1 y2)) (x3 i t row y1 y2)⟩
theorem LimsAt.draw {H H' : Hp} {p b l : Addr} {M : List Edge} (h : LimsAt H p M) (B : Box H b l) (s : SameB b H H') : LimsAt H' p M := by
  obtain ⟨ts, x1, x2, x3⟩ := h
  exact ⟨ts, s _ _ (B.neL3 x1) x1, x2, fun i t row y1 y2 => s _ _ (B.neT (x3 i t row y1 y2)) (x3 i t row y1 y2)⟩
end Law


/-! enumerate(xs), xs a list or a tuple. -/
namespace EnumT
open PySem PySem.Spec PyProof.Rows L2 ItSeq
theorem meets_newT (l : Addr) (items : Array Value) (o : Obj) :
    Meets (Builtin.«enumerate.__new__» ⟨[.type "enumerate", .ref l], []⟩) (fun _ R s => (s.heap.get? l = some o ∧ o.cls = .type "tuple" ∧ s.heap.IsTuple l items) ∧
      R (.ok (.ret (.ref (s.heap.push { cls := .type "tuple_iterator", data := .fields #[.ref l, .int 0 0] }).objs.size)))
        { s with heap := (s.heap.push { cls := .type "tuple_iterator", data := .fields #[.ref l, .int 0 0] }).push { cls := .type "enumerate", data := .fields #[.none, .bool false, .ref s.heap.objs.size, rawInt 0, .none, .none] } }) :=
  .of_wp fun prog w A R s h => by
    obtain ⟨hp, g, d, tk, os⟩ := s; obtain ⟨⟨hl, hc, hL⟩, h⟩ := h
    have hsub := sub_enumerate
    replace hL : Heap.IsTuple (Shared.heap ⟨hp, g, d, tk, os⟩) l items := hL
    wp_walk using AutoSeq1.wpAny_loadPart' hl
    refine wpAny_stack_any fun st => wpAny_pure ?_
    split
    · rename_i c _ _ _ _ _
      cases (c == Value.type "enumerate")
      · wp_walk using AutoSeq1.wpAny_loadPart' hl, wpAny_pyIter_tuple hL
        exact ⟨_, rfl, h⟩
      · wp_walk using AutoSeq1.wpAny_loadPart' hl, wpAny_pyIter_tuple hL
        exact ⟨_, rfl, h⟩
    · wp_walk using AutoSeq1.wpAny_loadPart' hl, wpAny_pyIter_tuple hL
      exact ⟨_, rfl, h⟩
section
variable {prog : Program} {w : World} {A : Around} {E : Value → Shared → Prop} {s : Shared}
theorem call_tuple {l : Addr} {items : Array Value} {Q : Value → Shared → Prop} (hL : s.heap.IsTuple l items)
    (h : ∀ h', IsEnum h' (s.heap.objs.size + 1) s.heap.objs.size 0 .none → h'.IsTupleIter s.heap.objs.size l 0 → h'.objs.size = s.heap.objs.size + 2 →
      (∀ b o, s.heap.get? b = some o → h'.get? b = some o) → Q (.ref (s.heap.objs.size + 1)) { s with heap := h' }) :
    wpAny (model prog w) A (call (.type "enumerate") [.ref l]) Q E s := by
  obtain ⟨o, hl, hc, n, hd⟩ := id hL
  refine callType_new F.called_enumerate (by decide) (F.typeCall_enumerate_1 _) (F.newCall_enumerate_1 _) (fun obj => F.args_object_init_2 obj _) F.entry_enumerate_new
    (meets_newT l items o) ⟨⟨hl, hc, hL⟩, ?_⟩
  have hz : (s.heap.push { cls := .type "tuple_iterator", data := .fields #[.ref l, .int 0 0] }).objs.size = s.heap.objs.size + 1 := Heap.size_push ..
  show _ ∧ _
  rw [hz]
  have he : IsEnum ((s.heap.push { cls := .type "tuple_iterator", data := .fields #[.ref l, .int 0 0] }).push
      { cls := .type "enumerate", data := .fields #[.none, .bool false, .ref s.heap.objs.size, rawInt 0, .none, .none] }) (s.heap.objs.size + 1) s.heap.objs.size 0 .none := by
    have := Heap.get?_push_size (s.heap.push { cls := .type "tuple_iterator", data := .fields #[.ref l, .int 0 0] })
      (o := { cls := .type "enumerate", data := .fields #[.none, .bool false, .ref s.heap.objs.size, rawInt 0, .none, .none] }) rfl
    rw [hz] at this; exact this
  refine ⟨⟨_, he, rfl⟩, h _ he ⟨_, Heap.get?_push_of_some _ (Heap.get?_push_size _ rfl), rfl, rfl⟩ (by rw [Heap.size_push, hz]) fun b o x => Heap.get?_push_of_some _ (Heap.get?_push_of_some _ x)⟩
end
/-- the tuple at a, each item in a new pair -/
def Itet (K : PySem.W.Frag) (a : Addr) : It :=
  ⟨fun i H => ∃ (xs : List V) (x : V), SqT K H a xs ∧ xs[i]? = some x, fun i H v H' => ∃ T x, v = .ref T ∧ H T = none ∧ H' = upd H T (.tup [.int (i : Nat), x]) ∧ ∀ xs, SqT K H a xs → xs[i]? = some x, fun i H => ∃ xs : List V, SqT K H a xs ∧ xs.length = i⟩
theorem turn_enumT {P : Program} {w : World} {K : PySem.W.Frag} {elts : List Expr} {kk : Nat} {tpos : Pos} (a e it : Addr) :
    Turn P w K (.Tuple elts kk tpos) (Itet K a) [e, it] e (fun i h => (∃ old, IsEnum h e it ((i : Nat) : Int) old) ∧ h.IsTupleIter it a i ∧ e ≠ it ∧ e ≠ a ∧ a ≠ it) where
  mem := by simp
  obj := fun i h st b hb => by
    obtain ⟨⟨old, he⟩, ⟨o, ho, hc, hd⟩, _⟩ := st
    have e' : b = e ∨ b = it := by simpa using hb
    rcases e' with z | z
    · rw [z]; exact ⟨_, he, fun v q => nomatch q⟩
    · rw [z]; exact ⟨o, ho, fun v q => by rw [hd] at q; cases q⟩
  keep := fun i h h' st k => let ⟨⟨old, he⟩, hi, hne⟩ := st; ⟨⟨old, k e (by simp) _ he⟩, hi.at fun o q => k it (by simp) o q, hne⟩
  item := by
    intro X hP hw hK hc i pins s σ H E I hf st hg
    subst hP hw hK
    obtain ⟨⟨old, he⟩, hit, hne, hea, hai⟩ := st
    obtain ⟨xs, x, hq, hx⟩ := hg
    obtain ⟨its, rv, p, hz⟩ := I.tuple hq
    obtain ⟨u, hu, ru⟩ := rv.get hx
    have hel : e < s.heap.objs.size := Heap.lt_size he
    have hil : it < s.heap.objs.size := by obtain ⟨_, q, _⟩ := hit; exact Heap.lt_size q
    have hlt : i < its.toArray.size := by
      have := (List.getElem?_eq_some_iff.mp hu).1
      simpa using this
    have D := Draws.tuple (prog := X.prog) (w := X.w) (A := X.A.in1) (I.ok.hd hc) it a hai its.toArray
    refine wpAny_pyNext_enum_itemD D he ⟨hit, show s.heap.IsTuple a its.toArray from p⟩ hlt hne (by simp [hne, hea]) fun y h' tk hy ho hst hT hsz hk => ?_
    have ey : y = u := by
      have z : its.toArray[i]? = some u := by simpa using hu
      rw [z] at hy
      exact (Option.some.inj hy).symm
    subst ey
    refine ⟨_, rfl, wpAny_letOwnedTupleGo_enum (s := { s with heap := h', toks := tk + 1 }) ho fun h'' he' sb => ?_⟩
    have hT2 : h''.get? s.heap.objs.size = some { cls := .type "tuple", data := .seq #[.int i tk, y] } := (sb.2 _ (Nat.ne_of_gt hel)).trans hT
    have new : ObjOk X.prog X.w (upd H s.heap.objs.size (.tup [.int (i : Nat), x])) h'' s.heap.objs.size (.tup [.int (i : Nat), x]) :=
      ⟨by show 2 ≤ sizeLine; decide, [.int i tk, y], .cons ⟨_, rfl⟩ (.cons ru .nil), ⟨_, hT2, rfl, _, rfl⟩⟩
    have I1 : Inv X pins σ (upd H s.heap.objs.size (.tup [.int (i : Nat), x])) { s with heap := h'', toks := tk + 1 } :=
      I.turnedNew (ch := [e, it]) (fun b ob hb q => (sb.2 b (fun z => hb (by simp [z]))).trans (hk b ob (fun z => hb (by simp [z])) (fun z => hb (by simp [z])) q)) hf (Nat.le_refl _) new
    refine ⟨.ref s.heap.objs.size, _, I1, rfl, ⟨_, x, rfl, I.hok.fresh (Nat.le_refl _), rfl, fun ys hy => by rw [I.tuple_inj hy hq]; exact hx⟩, ⟨⟨y, ?_⟩, hst.1.at fun o q => (sb.2 it (Ne.symm hne)).trans q, hne, hea, hai⟩, fun b hb => ?_⟩
    · have e1 : ((i + 1 : Nat) : Int) = (i : Int) + 1 := by omega
      rw [e1]; exact he'
    · have hb' : b < s.heap.objs.size := by
        have e' : b = e ∨ b = it := by simpa using hb
        rcases e' with z | z
        · rw [z]; exact hel
        · rw [z]; exact hil
      rw [upd_ne (Nat.ne_of_lt hb')]
      exact (hf b hb).1
  done := by
    intro X hP hw hK hc i pins s σ H E I hf st hg
    subst hP hw hK
    obtain ⟨⟨old, he⟩, hit, hne, hea, hai⟩ := st
    obtain ⟨xs, hq, hx⟩ := hg
    obtain ⟨its, rv, p, hz⟩ := I.tuple hq
    obtain ⟨f0, f1, f2, f3, f4, f5⟩ := hf it (by simp)
    have hl := rv.length
    have D := Draws.tuple (prog := X.prog) (w := X.w) (A := X.A.in1) (I.ok.hd hc) it a hai its.toArray
    have ei : i = its.toArray.size := by simp; omega
    refine wpAny_pyNext_enum_endD D he ⟨by rw [← ei]; exact hit, show s.heap.IsTuple a its.toArray from p⟩ fun h' eb => ⟨rfl, I.turned (t' := s.toks) (fun b o hb q => eb b o hb q) f0 f1 f3 f4 f5⟩
  self := fun A i s Q E st h => let ⟨⟨_, he⟩, _⟩ := st; wpAny_pyIter_enum he h
theorem walk_enumT {K : PySem.W.Frag} {a : Addr} {xs : List V} : Walk (Itet K a) xs.length (fun H => SqT K H a xs ∧ ∀ ys, SqT K H a ys → ys = xs) (YPair (fun i => some (.int (i : Nat))) (fun i => xs[i]?)) := by
  refine ⟨fun i _ hi q => ⟨xs, xs[i], q.1, by simp [hi]⟩, fun _ q => ⟨xs, q.1, rfl⟩, fun i H v H' _ q y => ?_⟩
  obtain ⟨T, x, h1, h2, h3, h4⟩ := y
  exact ⟨T, .int (i : Nat), x, h1, h2, h3, rfl, h4 xs q.1⟩
/-- a list or a tuple enumerated: whichever it is, it is walked alike as long as all stands -/
def iEnS (K : PySem.W.Frag) (ta : TA) : TI := fun σ H R => ta σ H fun vs H1 => ∃ a xs, vs = [.ref a] ∧ Sq K H1 a xs ∧ ∀ J, Walk J xs.length (fun H => Same H1 H) (YPair (fun i => some (.int (i : Nat))) (fun i => xs[i]?)) → R J H1
theorem pi_enS {X : Cx} {e : Expr} {ta : TA} {p pos tpos : Pos} {elts : List Expr} {kk : Nat} (hg : Gl X "enumerate") (hm : X.mg "enumerate" = none) (ha : PA X [e] ta) (hs : starEach [e] X.env = [(false, eval e X.env)] := by rfl) :
    PI X (.Tuple elts kk tpos) (.Call (.Name "enumerate" p) [e] [] pos) (iEnS X.K ta) := by
  refine ⟨fun pins s σ H R I h => ?_⟩
  refine Call_ (ld_blt I hg hm boot_enumerate (PyProof.Rows.callWith_type1 (thn (ha.run pos pins s σ H _ I h) fun us s1 ⟨vs, H1, I1, r1, q1⟩ => ?_) hs rfl))
  obtain ⟨a, xs, ex, hq, q⟩ := q1
  subst ex
  cases r1 with
  | cons r rr =>
    cases rr
    cases r
    have fp : ∀ b ∈ [s1.heap.objs.size + 1, s1.heap.objs.size], FpOk X pins H1 b := fun b hb => by
      have e' : b = s1.heap.objs.size + 1 ∨ b = s1.heap.objs.size := by simpa using hb
      have hle : s1.heap.objs.size ≤ b := by
        rcases e' with z | z
        · rw [z]; exact Nat.le_add_right _ _
        · rw [z]; exact Nat.le_refl _
      exact I1.fpOk hle (I1.hok.fresh hle)
    rcases hq with hq | hq
    · obtain ⟨its, rv, p', hz⟩ := I1.list hq
      refine call_enumerate_list p'.isList fun h' he hit hsz hk => wpAny_pyIter_enum he ?_
      have I2 : Inv X pins σ H1 { s1 with heap := h' } := I1.kept (t' := s1.toks) hk
      exact ⟨s1.heap.objs.size + 1, [s1.heap.objs.size + 1, s1.heap.objs.size], _, _, H1, rfl, I2, turn_enum a (s1.heap.objs.size + 1) s1.heap.objs.size, ⟨⟨.none, he⟩, hit, Nat.succ_ne_self _⟩, fp, q _ (walk_enum.mono (fun _ s => sqL_same hq s) fun _ _ _ _ _ _ y => y)⟩
    · obtain ⟨its, rv, p', hz⟩ := I1.tuple hq
      have hlt : a < s1.heap.objs.size := by
        obtain ⟨o, z, _⟩ := p'
        exact Heap.lt_size z
      refine call_tuple (show s1.heap.IsTuple a its.toArray from p') fun h' he hit hsz hk => wpAny_pyIter_enum he ?_
      have I2 : Inv X pins σ H1 { s1 with heap := h' } := I1.kept (t' := s1.toks) hk
      refine ⟨s1.heap.objs.size + 1, [s1.heap.objs.size + 1, s1.heap.objs.size], _, _, H1, rfl, I2, turn_enumT a (s1.heap.objs.size + 1) s1.heap.objs.size, ⟨⟨.none, he⟩, hit, Nat.succ_ne_self _, Ne.symm (Nat.ne_of_lt (Nat.lt_succ_of_lt hlt)), Nat.ne_of_lt hlt⟩, fp, q _ ⟨fun i H hi s => ⟨xs, xs[i], sqT_same hq s, by simp [hi]⟩, fun H s => ⟨xs, sqT_same hq s, rfl⟩, fun i H v H' _ s y => ?_⟩⟩
      obtain ⟨T, x, h1, h2, h3, h4⟩ := y
      exact ⟨T, .int (i : Nat), x, h1, h2, h3, rfl, h4 xs (sqT_same hq s)⟩
end EnumT

/-! A list comprehension whose conditions and element may raise. -/
namespace CompY
open PySem PySem.Spec PyProof.Rows L2
section
variable {X : Cx} {W : WX} {pins : List (Addr × Obj)} {σ : L2.St} {H3 : Hp} {s3 : Shared} {scope : Scope} {ce : Env} {fp : List Addr} {use : Option (Value → Sem Unit)} {Qf : Value → Shared → Prop} {D : Addr}
/-- where the block's exceptions go -/
def airOf (X : Cx) (ce : Env) (use : Option (Value → Sem Unit)) (Qf : Value → Shared → Prop) (D : Addr) : Value → Shared → Prop :=
  notedBy (model X.prog X.w) X.A ce fun e s' => compEnds (model X.prog X.w) X.A X.xe use Qf (.ref D) ce (.error e) s'
theorem air (hst : X.stack = X.env :: X.outer) (hfr : X.env.frame = some X.env.locals) (tk : Takes X W) (I3 : L2.Inv X pins σ H3 s3) (hL : ce.locals = s3.heap.objs.size) (hce : ce.frame = X.env.frame)
    (hfp : ∀ b ∈ fp, FpOk X pins H3 b) {pn : List (Addr × Obj)} {τ : L2.St} {H : Hp} {s : Shared} {e : Value} {s' : Shared} (J0 : L2.Inv ((X.blk s3 H3 scope ce fp).tr [] (airOf X ce use Qf D)) pn τ H s)
    (c : L2.CX X.prog X.w X.stack H s (fun cls d H' => W cls d σ H') e s') : airOf X ce use Qf D e s' := by
  have c0 := c
  obtain ⟨a, _, _, _, _, rfl, fly, _⟩ := c
  obtain ⟨a', B, sI, pn2, τ2, H2, cls, d, ea, J, nb, up, sky, na, os, ag, w⟩ := XE.of_call (X := (X.blk s3 H3 scope ce fp).tr [] (airOf X ce use Qf D)) (W := fun cls d _ H' => W cls d σ H') J0 (fun _ _ _ z => z) c0
  cases ea
  have nb : ∀ b o, sI.heap.get? b = some o → b ∉ frs X.stack → B.get? b = some o := nb
  have fl : HandSPX.FlyingZ B (X.env :: X.outer) a (Zc cls d) s'.heap := by
    have sky : Sky B X.stack a (Zc cls d) ce.locals s'.heap := sky
    rw [hst] at sky
    obtain ⟨_, _, _, o2, v2, T2, t2, ts2, g1, _, g3, g4, _, _, g7, g8, g9⟩ := fly
    rcases sky with ⟨_, _, _, o1, v1, k1, _, k3, k4⟩ | z | ⟨_, _, _, o1, v1, T1, t1, ts1, k1, _, k3, k4, _, _, k7, k8, k9⟩
    · rw [g1] at k1
      cases k1
      rw [g3] at k3
      cases k3
      rw [g4] at k4
      cases k4
    · exact z
    · rw [g1] at k1
      cases k1
      rw [g3] at k3
      cases k3
      rw [g4] at k4
      cases k4
      rw [g7] at k7
      cases k7
      rw [g8] at k8
      cases k8
      rw [g9] at k9
      cases k9
  obtain ⟨m, nsI, _⟩ := J.loc
  have nsI : sI.heap.Ns ce.locals m := nsI
  have fA : X.A.frames = some (X.env :: X.outer) := by rw [I3.ok.frames, hst]
  show wpAny _ _ (noteFrame (.ref a) ce) _ _ _
  rw [noteFrame_env _ hce]
  refine HandSPX.looks_onZ Zc.steady fA hfr fl fun h1 hh up1 => ?_
  have ns1 : h1.Ns ce.locals m := Heap.Ns.upToSlots nsI (up.trans up1)
  have goal : CompFails (model X.prog X.w) X.A X.xe ce (.ref a) { s' with heap := h1 } := by
    refine ⟨m, ns1, fun h2 m2 ns2 sb => ?_⟩
    obtain ⟨y1, y2, y3, oe, vs, T, oT, ts, he, hz, hd, hv, hnT, hTe, hT, hdT, h3⟩ := hh
    have ofC : ∀ {b : Addr} {o : Obj} {us : Array Value}, h1.get? b = some o → o.data = .fields us → b ≠ ce.locals := fun {b o us} q1 q2 z => by
      obtain ⟨oL, _, _, r1, r2, _⟩ := ns1
      rw [z, r1] at q1
      cases q1
      rw [r2] at q2
      cases q2
    have keep : ∀ {b : Addr}, b ≠ ce.locals → h2.get? b = h1.get? b := fun {b} n => sb.2 b n
    have nC : H2 ce.locals = none := J.free
    have hid : ∀ {h : Heap} {b : Addr} {o : Obj}, (PySem.W.hideAll h [ce.locals]).get? b = some o → b ≠ ce.locals ∧ h.get? b = some o := fun {h b o} q =>
      ⟨fun z => (by
        rw [z, PySem.W.hideAll_none _ List.mem_cons_self] at q
        cases q), PySem.W.of_hideAll _ q⟩
    have hidN : ∀ {h : Heap} {b : Addr}, h.get? b = none → (PySem.W.hideAll h [ce.locals]).get? b = none := fun {h b} q => by
      cases z : (PySem.W.hideAll h [ce.locals]).get? b with
      | none => rfl
      | some o =>
        rw [(hid z).2] at q
        cases q
    have held : HandSPX.HeldZ (PySem.W.hideAll B [ce.locals]) (X.env :: X.outer) a (Zc cls d) X.env.locals h2 := by
      refine ⟨fun b o q => ?_, hidN y2, ?_, oe, vs, T, oT, ts, (keep (ofC he hd)).trans he, hz, hd, hv, hidN hnT, hTe, (keep (ofC hT hdT)).trans hT, hdT, h3⟩
      · obtain ⟨n, q'⟩ := hid q
        exact (keep n).trans (y1 b o q')
      · exact funFrames_none (Heap.FunFrames.sameBut sb ns2 y3) fun b hb => hidN (y3.mem hb).1
    have I7 : L2.Inv X pins σ H2 sI := I3.call' (ch := fp) J.os J.base J.hok J.bare fun b hb => by
      obtain ⟨_, z1, _, z3, z4, z5⟩ := hfp b hb
      exact ⟨z3, z1, z4, z5⟩
    obtain ⟨f0, f1, f2, f3, f4, f5⟩ := I3.fpOk (b := ce.locals) (Nat.le_of_eq hL.symm) nC
    have I8 := I7.turned (t' := sI.toks) (it := ce.locals) (h' := PySem.W.hideAll sI.heap [ce.locals]) (fun b o n q => PySem.W.hideAll_get _ q (by simpa using n)) f0 f1 f3 f4 f5
    unfold PySem.passOn
    refine wpAny_bind (wpAny_field ((keep (ofC he hd)).trans he) hd hv ?_)
    rw [if_neg (show ¬ ((Value.ref T == Value.none) = true) from by simp)]
    have fin : wpAny (model X.prog X.w) X.A (setFlight (.ref a) ce.frame) (fun _ s4 => wpAny (model X.prog X.w) X.A (throw (.ref a) : Sem Value) (fun _ _ => False) X.xe s4) X.xe { s' with heap := h2 } := by
      rw [hce, hfr]
      refine HandSPX.setFlight_onZ held fun h4 hh4 up4 => wpAny_throw (tk _ _ ⟨a, PySem.W.hideAll B [ce.locals], _, pins, σ, H2, cls, d, rfl, I8, fun b o q n => ?_, fun b o q n => ?_, .inr (.inr (by rw [hst]; exact hh4)), na, os, ag, w⟩)
      · obtain ⟨n1, q'⟩ := hid q
        exact PySem.W.hideAll_get _ (nb b o q' n) (by simpa using n1)
      · obtain ⟨n1, q'⟩ := hid q
        obtain ⟨sl, q2⟩ := (up.trans up1) b o q' n
        obtain ⟨sl2, q3⟩ := up4 b _ ((keep n1).trans q2) n
        exact ⟨sl2, q3⟩
    first
      | exact wpAny_bind (wpAny_pure (wpAny_bind fin))
      | exact wpAny_bind fin
  cases use with
  | none => exact goal
  | some u => exact goal
end
/-- the block's context, its exceptions going to xe -/
abbrev Blk (X : Cx) (s : Shared) (H : Hp) (scope : Scope) (ce : Env) (fp : List Addr) (xe : Value → Shared → Prop) : Cx := (X.blk s H scope ce fp).tr [] xe
section
variable {X : Cx} {W : WX} {elt tg iter : Expr} {ifs : List Expr} {scope : Scope} {own : List (Str × Nat)} {wi : TI} {g : TG} {tt : XK → TT} {te : XK → TE}
/-- what the parts of the comprehension are, in whatever block -/
structure Parts (X : Cx) (elt tg iter : Expr) (ifs : List Expr) (scope : Scope) (own : List (Str × Nat)) (wi : TI) (g : TG) (tt : XK → TT) (te : XK → TE) : Prop where
  calm : X.calm = true
  nd : X.N.Nodup
  it : PI X tg iter wi
  ok : BlkOk X.N X.env.scope scope own
  tgt : ∀ s H C cl fp xe, PG (Blk X s H scope (compEnvC scope cl C X.env) fp xe) tg g
  tst : ∀ s H C cl fp xe (E : XK), (∀ τ, PassesAt (L2.CX X.prog X.w) (Blk X s H scope (compEnvC scope cl C X.env) fp xe) τ E) → PTs (Blk X s H scope (compEnvC scope cl C X.env) fp xe) ifs (tt E)
  elm : ∀ s H C cl fp xe (E : XK), (∀ τ, PassesAt (L2.CX X.prog X.w) (Blk X s H scope (compEnvC scope cl C X.env) fp xe) τ E) → PE (Blk X s H scope (compEnvC scope cl C X.env) fp xe) elt (te E)
  fold : ∀ x, foldedSetIterable iter X.env x = pure x
theorem core {pins : List (Addr × Obj)} {s : Shared} {σ : L2.St} {H : Hp} {Q : VK} {pos pos' : Pos} {use : Option (Value → Sem Unit)} {Qf : Value → Shared → Prop} (hst : X.stack = X.env :: X.outer) (hfr : X.env.frame = some X.env.locals) (tk : Takes X W)
    (P : Parts X elt tg iter ifs scope own wi g tt te) (I : L2.Inv X pins σ H s) (h : tLc wi g (tt fun cls d H' => W cls d σ H') (te fun cls d H' => W cls d σ H') (own.map (·.2)) σ H Q)
    (hRR : ∀ (D : Addr) (ce : Env) s' m H', L2.Inv X pins σ H' s' → Q (.ref D) H' → s'.heap.Ns ce.locals m → FpOk X pins H' ce.locals → compEnds (model X.prog X.w) X.A X.xe use Qf (.ref D) ce (.ok .next) s') :
    wpAny (model X.prog X.w) X.A (comprehension (.ListComp elt [⟨tg, iter, ifs, 0⟩] scope pos) scope X.env pos' (newList []) false (eval iter X.env) use) Qf X.xe s := by
  have ok := P.ok
  have free : ∀ y ∈ scope.names, y.2 = .free → ∃ c, X.env.cells.lookup y.1 = some c := fun y hy e => (ok.free y hy e).elim (fun k => I.ok.has _ (.inl k)) fun k => I.ok.has _ (.inr k)
  refine comprehension_at (use := use) rfl P.fold (closure_ok free) ok.kind (fun y hy e => (ok.uniq y hy).trans (congrArg some e))
    (thn (P.it.run pins s σ H _ I h) fun v0 s1 k1 => thn k1 fun v1 s2 k2 => ?_)
  obtain ⟨it, fp, tn, J, H2, rfl, I2, T, t2, f2, q⟩ := k2
  refine wpAny_newObj_type (newEnv_comp ?_) (by show 0 ≤ sizeLine; decide)
  obtain ⟨D, hD⟩ : ∃ D, D = s2.heap.objs.size := ⟨_, rfl⟩
  rw [← hD]
  have nD : H2 D = none := I2.hok.fresh (Nat.le_of_eq hD.symm)
  obtain ⟨Wv, ⟨m0, w0⟩, turn⟩ := q D nD
  obtain ⟨s3, hs3⟩ : ∃ s3 : Shared, s3 = { s2 with heap := s2.heap.push { cls := .type "list", data := .seq ([] : List Value).toArray } } := ⟨_, rfl⟩
  have I3 : L2.Inv X pins σ (upd H2 D (.lst [])) s3 := by
    subst hs3 hD
    exact I2.laid (t' := s2.toks) (fun b o e => Heap.get?_push_of_some _ e) (Nat.le_refl _) ⟨Nat.zero_le _, [], 0, .nil, Heap.get?_push_size _ rfl⟩
  have old : ∀ b o, s2.heap.get? b = some o → s3.heap.get? b = some o := fun b o e => by
    rw [hs3]
    exact Heap.get?_push_of_some _ e
  have lt2 : ∀ b ∈ fp, b < s2.heap.objs.size := fun b hb => by
    obtain ⟨o, e, _⟩ := T.obj _ _ t2 b hb
    exact Heap.lt_size e
  have f3 : ∀ b ∈ fp, FpOk X pins (upd H2 D (.lst [])) b ∧ b < s3.heap.objs.size := fun b hb => by
    have l := lt2 b hb
    refine ⟨⟨(upd_ne (by rw [hD]; exact Nat.ne_of_lt l)).trans (f2 b hb).1, (f2 b hb).2⟩, ?_⟩
    rw [hs3]
    show b < (s2.heap.push _).objs.size
    rw [Heap.size_push]
    exact Nat.lt_succ_of_lt l
  have t3 : tn 0 s3.heap := T.keep _ _ _ t2 fun b _ o e => old b o e
  have I4 := block_start I3 ok P.nd f3
  obtain ⟨H3, hH3⟩ : ∃ H3, H3 = upd H2 D (.lst []) := ⟨_, rfl⟩
  rw [← hH3] at I3 I4 f3 w0
  obtain ⟨cl, hcl⟩ : ∃ cl, cl = cellsFrom (s3.heap.objs.size + 1) scope.names (cloFrom X.env.cells scope.names []) := ⟨_, rfl⟩
  rw [← hcl] at I4
  have pgT := P.tgt s3 H3 s3.heap.objs.size cl fp
  have ptT := P.tst s3 H3 s3.heap.objs.size cl fp
  have peT := P.elm s3 H3 s3.heap.objs.size cl fp
  obtain ⟨s4, hs4⟩ : ∃ s4 : Shared, s4 = { s3 with heap := pushCells (s3.heap.push { cls := .type "dict", data := .dict #[] }) scope.names } := ⟨_, rfl⟩
  rw [← hs4] at I4
  have t4 : tn 0 s4.heap := T.keep _ _ _ t3 fun b _ o e => by
    rw [hs4]
    exact pushCells_keeps _ _ _ _ (Heap.get?_push_of_some _ e)
  have key : codeAny (model X.prog X.w) X.A (.compStart (.ListComp elt [⟨tg, iter, ifs, 0⟩] scope pos) 0 (.ref it) (.ref D) (compEnvC scope cl s3.heap.objs.size X.env))
      (compEnds (model X.prog X.w) X.A X.xe use Qf (.ref D) (compEnvC scope cl s3.heap.objs.size X.env)) s4 := by
    obtain ⟨ce, hce⟩ : ∃ ce, ce = compEnvC scope cl s3.heap.objs.size X.env := ⟨_, rfl⟩
    rw [← hce] at I4 pgT ptT peT ⊢
    have cL : ce.locals = s3.heap.objs.size := by rw [hce]; rfl
    have cF : ce.frame = X.env.frame := by rw [hce]; rfl
    obtain ⟨xe, hxe⟩ : ∃ xe, xe = airOf X ce use Qf D := ⟨_, rfl⟩
    have pass : ∀ τ, PassesAt (L2.CX X.prog X.w) (Blk X s3 H3 scope ce fp xe) τ (fun cls d H' => W cls d σ H') := fun τ pn Hc sc e s' Ic c => by
      subst hxe
      exact air hst hfr tk I3 cL cF (fun b hb => (f3 b hb).1) Ic c
    have I4' : L2.Inv (Blk X s3 H3 scope ce fp xe) [] (wipe σ (own.map (·.2))) H3 s4 := I4.toTry xe
    have nfp : ∀ b ∈ fp, H3 b = none := fun b hb => (f3 b hb).1.1
    have stat : ∀ {τ : L2.St} {H' : Hp} {s' : Shared}, L2.Inv (Blk X s3 H3 scope ce fp xe) [] τ H' s' → (∀ b ∈ fp, H' b = none) → ∀ b ∈ fp, FpOk (Blk X s3 H3 scope ce fp xe) [] H' b := fun {τ H' s'} I' hn b hb =>
      ⟨hn b hb, (I'.ok.exf b hb).1, I'.ok.exfs b hb, .inl hb, fun x c e => (I'.ok.exf b hb).2 x c e, fun p hp => nomatch (show p ∈ ([] : List (Addr × Obj)) from hp)⟩
    have loop : codeAny (model X.prog X.w) X.A (.compLoop (.ListComp elt [⟨tg, iter, ifs, 0⟩] scope pos) 0 (.ref it) (.ref D) ce) (compEnds (model X.prog X.w) X.A X.xe use Qf (.ref D) ce) s4 := by
      refine compLoop_any (fun n s' => ∃ i H', L2.Inv (Blk X s3 H3 scope ce fp xe) [] (wipe σ (own.map (·.2))) H' s' ∧ tn i s'.heap ∧ (∀ b ∈ fp, H' b = none) ∧ Wv i n H') ?_ m0 ⟨0, H3, I4', t4, nfp, w0⟩
      rintro n s5 ⟨i, H5, I5, t5, n5, w5⟩
      rcases turn i n H5 w5 with ⟨stop, qq⟩ | ⟨go, Nx, hNx, step⟩
      · refine thnF (T.done (Blk X s3 H3 scope ce fp xe) rfl rfl rfl P.calm i [] s5 _ H5 (fun _ _ => False) I5 (stat I5 n5) t5 stop) fun r s6 ⟨hr, I6⟩ => ?_
        subst hr
        have I7 : L2.Inv X pins σ H5 s6 := I3.call' (ch := fp) I6.os I6.base I6.hok I6.bare fun b hb => by
          obtain ⟨_, z1, _, z3, z4, z5⟩ := (f3 b hb).1
          exact ⟨z3, z1, z4, z5⟩
        have nC : H5 ce.locals = none := I6.free
        obtain ⟨m, hn, _⟩ := I6.loc
        exact hRR D ce s6 m H5 I7 qq hn (I3.fpOk (Nat.le_of_eq cL.symm) nC)
      · refine thnF (T.item (Blk X s3 H3 scope ce fp xe) rfl rfl rfl P.calm i [] s5 _ H5 (fun _ _ => False) I5 (stat I5 n5) t5 go) fun r s6 ⟨u, hr, h6⟩ => ?_
        subst hr
        refine thnF h6 fun _ s7 ⟨x, H7, I7, r7, y7, t7, n7⟩ => ?_
        have I7' := I7.pinned (stat I7 n7) (T.obj _ _ t7)
        subst hxe
        refine thn ((pgT _).run _ s7 _ H7 x u _ I7' r7 (step x H7 y7)) fun _ s8 ⟨τ, H8, I8, hw, q8⟩ => ?_
        refine thn ((ptT _ _ pass).run _ s8 τ H8 _ I8 q8) fun b s9 ⟨H9, I9, q9⟩ => ?_
        have fin : ∀ {s' : Shared} {H' : Hp}, L2.Inv (Blk X s3 H3 scope ce fp (airOf X ce use Qf D)) ([] ++ pinsAt fp s7.heap) τ H' s' → Nx H' →
            ∃ m, m < n ∧ ∃ i H', L2.Inv (Blk X s3 H3 scope ce fp (airOf X ce use Qf D)) [] (wipe σ (own.map (·.2))) H' s' ∧ tn i s'.heap ∧ (∀ b ∈ fp, H' b = none) ∧ Wv i m H' := fun {s' H'} I' nx => by
          obtain ⟨m', hm, w'⟩ := hNx H' nx
          have pin : ∀ b ∈ fp, ∀ o, s7.heap.get? b = some o → s'.heap.get? b = some o ∧ H' b = none := fun b hb o e => by
            have z := I'.pin (b, o) (List.mem_append_right _ (List.mem_append_right _ (mem_pinsAt hb e)))
            exact ⟨z.1, z.2.1⟩
          refine ⟨m', hm, i + 1, H', (I'.unpinned (pins := [])).weak ?_ fun j v e => ?_, T.keep _ _ _ t7 fun b hb o e => (pin b hb o e).1, fun b hb => ?_, w'⟩
          · rw [← hw, wipe_length]
          · rw [← hw] at e
            exact (wipe_some e).1
          · obtain ⟨o, e, _⟩ := T.obj _ _ t7 b hb
            exact (pin b hb o e).2
        cases b with
        | false =>
          rw [if_neg Bool.false_ne_true] at q9 ⊢
          exact fin I9 q9
        | true =>
          rw [if_pos rfl] at q9 ⊢
          refine thn ((peT _ _ pass).run _ s9 τ H9 _ I9 q9) fun z s10 ⟨yv, H10, I10, r10, acc, hD10, hz10, nx⟩ => ?_
          exact app_ok (X := Blk X s3 H3 scope ce fp (airOf X ce use Qf D)) I10 hD10 hz10 r10 fun s11 I11 => fin I11 nx
    exact codeAny_compStart_list loop (T.self X.A 0 _ _ _ t4 loop)
  subst hs4 hcl hs3
  exact key
/-- the comprehension's reading where its element may raise -/
def tLcX (wi : TI) (g : TG) (tt : XK → TT) (te : XK → TE) (vs : List Nat) (W : WX) : TE := fun σ H Q => tLc wi g (tt fun cls d H' => W cls d σ H') (te fun cls d H' => W cls d σ H') vs σ H Q
/-- [..] -/
theorem pe_lcX {pos : Pos} (hst : X.stack = X.env :: X.outer) (hfr : X.env.frame = some X.env.locals) (tk : Takes X W) (P : Parts X elt tg iter ifs scope own wi g tt te) :
    PE X (.ListComp elt [⟨tg, iter, ifs, 0⟩] scope pos) (tLcX wi g tt te (own.map (·.2)) W) := by
  refine ⟨fun pins s σ H Q I h => ?_⟩
  rw [eval_ListComp]
  refine core (use := none) hst hfr tk P I h fun D ce s' m H' I' q hn f => ⟨m, hn, fun h'' sb => ?_⟩
  obtain ⟨f0, f1, f2, f3, f4, f5⟩ := f
  exact ⟨.ref D, H', I'.turned (t' := s'.toks) (fun b o hb e => (sb.2 b hb).trans e) f0 f1 f3 f4 f5, rfl, q⟩
/-- y = [..] -/
theorem ps_setLcX {i : Nat} {y : Str} {py pos spos : Pos} (hst : X.stack = X.env :: X.outer) (hfr : X.env.frame = some X.env.locals) (tk : Takes X W) (hy : X.N[i]? = some y) (hyl : X.env.scope.names.lookup y = some .local)
    (hsw : swapsWith (.ListComp elt [⟨tg, iter, ifs, 0⟩] scope pos) (some (.Name y py)) spos.line X.env = pure true) (P : Parts X elt tg iter ifs scope own wi g tt te) :
    PS X (.Assign [.Name y py] (.ListComp elt [⟨tg, iter, ifs, 0⟩] scope pos) spos) (tAsg (tLcX wi g tt te (own.map (·.2)) W) (gName i)) := by
  refine ⟨fun pins s σ H D I h => ?_⟩
  rw [exec_Assign_Name_used _ _ _ _ hsw]
  refine wpAny_bind (wpAny_standAt (wpAny_bind ?_))
  show wpAny _ X.A (do let _ ← comprehension (.ListComp elt [⟨tg, iter, ifs, 0⟩] scope pos) scope X.env (firstIterPos [⟨tg, iter, ifs, 0⟩] pos) (newList []) false (eval iter X.env) (some (assign (.Name y py) X.env))) _ _ s
  have h : tLc wi g (tt fun cls d H' => W cls d σ H') (te fun cls d H' => W cls d σ H') (own.map (·.2)) σ H (fun x H1 => gName i x σ H1 D.nx) := h
  refine wpAny_bind (thn (core (Qf := fun _ s' => SP X pins D .next s') hst hfr tk P I h fun L ce s' m H' I' q hn f => ?_) fun _ s' hq => wpAny_pure (wpAny_pure hq))
  show wpAny _ _ (assign (.Name y py) X.env (.ref L)) _ _ _
  refine wpAny_assign_Name (store_ok2 (v := V.ref L) I' P.nd hy (.inl hyl) rfl (fun s2 I2 ⟨a, sb, ha⟩ => ?_) (.inr hyl))
  obtain ⟨f0, f1, f2, f3, f4, f5⟩ := f
  have hne : ce.locals ≠ a := ha.elim (fun z => by rw [z]; exact f1) fun z e => f4 y a z e.symm
  exact ⟨m, hn.sameBut sb hne, fun h3 sb3 => ⟨_, H', I2.turned (t' := s2.toks) (fun b o hb e => (sb3.2 b hb).trans e) f0 f1 f3 f4 f5, q⟩⟩
end
end CompY

/-! f(e, .., k = v, ..) of a def, where the way out may depend on the slots. -/
namespace KwN
open PySem PySem.Spec PyProof.Rows L2
def tCallNS (n m : Nat) (sp : Sp) (gV : List V → List V → List V) (E : L2.St → XK) (t tk : TA) : TE := fun σ H Q => t σ H fun vs H1 => tk σ H1 fun zs H2 => vs.length = n ∧ zs.length = m ∧ sp (gV vs zs) H2 Q (E σ)
theorem pe_callNS {X : Cx} {CX : CXT} {k n : Nat} {f : Addr} {fd : FuncData} {ps ks : List Str} {sp : Sp} {E : L2.St → XK} {x : Str} {p pos : Pos} {e : Expr} {es : List Expr} {kws : List Keyword} {t tk : TA} {g : List Value → List Value → List Value} {gV : List V → List V → List V}
    (F : FnOk X.prog X.w X.K X.mg X.base CX k f fd ps sp) (hr : Room k X.A) (hg : Gl X x) (hm : X.mg x = some (.ref f)) (hk : PySem.W.keepIn X.K (.ref f) = true) (hb : KBn X.K fd ps n ks g gV) (hx : ∀ σ, PassesAt CX X σ (E σ)) (ha : PA X (e :: es) t) (hkw : PK X kws tk)
    (hall : (backToKw pos (keywordEach kws X.env)).all (·.1.isSome) = true := by rfl) (hks : (backToKw pos (keywordEach kws X.env)).filterMap (·.1) = ks := by rfl) (hdb : (x == ("__debug__" : Str)) = false := by decide)
    (hst : starEach (e :: es) X.env = (false, eval e X.env) :: starEach es X.env := by rfl)
    (hpl : ((backTo pos (starEach (e :: es) X.env)).any (·.1) || (backToKw pos (keywordEach kws X.env)).any (·.1.isNone)) = false := by rfl) :
    PE X (.Call (.Name x p) (e :: es) kws pos) (tCallNS n ks.length sp gV E t tk) := by
  refine ⟨fun pins s σ H Q I h => ?_⟩
  refine wpAny_Call_Name_kw (ld_glob I hg hm ?_ hdb)
  refine PySem.W.callWith_KW (h₀ := X.base) I.ok.mod.kin hk hall (thn (ha.run pos pins s σ H _ I h) fun us s1 ⟨vs, H1, I1, r, q⟩ => ?_) hpl hst
  refine thn (hkw.run pos pins s1 σ H1 _ I1 q) fun ws s3 ⟨zs, H3, I3, rz, l1, l2, q3⟩ => ⟨I3.kIn, ?_⟩
  rw [hks]
  refine wpAny_call (codeAny_mono (F.run X.A X.stack s3 H3 ⟨us, ks.zip ws⟩ (g us ws) (gV vs zs) Q (E σ) hr I3.env0 (hb.to s3 us ws I3.kIn (r.length ▸ l1) (rz.length ▸ l2)) (hb.rel r rz) q3) fun r s' hq => ?_)
  cases r with
  | error e => exact hx σ pins H3 s3 e s' I3 hq
  | ok fl =>
    cases fl with
    | ret u => exact I3.after hq
    | next => exact False.elim hq
    | brk => exact False.elim hq
    | cont => exact False.elim hq
end KwN

/-! Heights checked against trials. -/
namespace Law
open PySem PySem.Spec PyProof.Rows L2 Sup ItSeq
abbrev sAgr : Stmt := inClass (top 33) 2
abbrev sMis : Stmt := top 34
abbrev sCks : Stmt := top 37
/-- what the trial says of the heights; none: no such index -/
def agr (xs : List Int) (p h : Int) (r : Bool) : Option Bool := if 0 ≤ p then (xs[p.toNat]?).map (fun z => if r then decide (z ≤ h) else decide (h < z)) else none
def NoPl (CP : Addr) (E : XK) (H : Hp) (p : Int) : Prop := ∀ H' d, Same H H' → H' d = none → E (.ref CP) (some d) (upd H' d (.xd [(("place" : Str), V.int p)]))
def spAgr (K : PySem.W.Frag) (CP CT : Addr) : Sp := fun vs H Q E => ∃ (x l : Addr) (p h : Int) (r : Bool) (xs : List Int), vs = [.ref x, .ref l] ∧ Tri CT H x p h r ∧ SqL K H l (xs.map V.int) ∧ p.natAbs < 2 ^ 1000 ∧
  (∀ b, agr xs p h r = some b → Q (.bl b) H) ∧ (agr xs p h r = none → NoPl CP E H p)

def TsAt (CT : Addr) (H : Hp) (ts : List Addr) (rows : List Tr) : Prop := ts.length = rows.length ∧ ∀ (i : Nat) (t : Addr) (q : Tr), ts[i]? = some t → rows[i]? = some q → Tri CT H t q.1 q.2.1 q.2.2
theorem TsAt.same {CT : Addr} {H H' : Hp} {ts : List Addr} {rows : List Tr} (h : TsAt CT H ts rows) (s : Same H H') : TsAt CT H' ts rows := ⟨h.1, fun i t q e1 e2 => (h.2 i t q e1 e2).same s⟩
def agr3 (xs : List Int) (q : Tr) : Option Bool := agr xs q.1 q.2.1 q.2.2
def strangeR (xs : List Int) (rows : List Tr) : Option Int := (rows.find? fun q => (agr3 xs q).isNone).map (·.1)
def wrong (xs : List Int) (rows : List Tr) : List Int := (List.range rows.length).filterMap fun i : Nat => if (rows[i]?.bind (agr3 xs)) = some false then some (i : Int) else none
def spMis (K : PySem.W.Frag) (CP CT : Addr) : Sp := fun vs H Q E => ∃ (a l : Addr) (ts : List Addr) (rows : List Tr) (xs : List Int), vs = [.ref a, .ref l] ∧ Sq K H a (ts.map V.ref) ∧ TsAt CT H ts rows ∧ SqL K H l (xs.map V.int) ∧ rows.length ≤ 900 ∧ (∀ q ∈ rows, q.1.natAbs < 2 ^ 1000) ∧
  (∀ p, strangeR xs rows = some p → NoPl CP E H p) ∧ (strangeR xs rows = none → ∀ D H', Same H H' → H' D = some (.lst ((wrong xs rows).map V.int)) → H D = none → Q (.ref D) H')

structure MiTxt (K : PySem.W.Frag) (mg : Str → Option Value) (CT : Addr) : Prop where
  tri : mg "Trial" = some (.ref CT)
  b_enum : mg "enumerate" = none
  cl : Cls K CT

def TSq (K : PySem.W.Frag) (CT : Addr) (H : Hp) (a : Addr) (rows : List TRow) : Prop := ∃ ts : List Addr, Sq K H a (ts.map V.ref) ∧ TsAt CT H ts rows
theorem TSq.same {K : PySem.W.Frag} {CT a : Addr} {H H' : Hp} {rows : List TRow} (h : TSq K CT H a rows) (s : Same H H') : TSq K CT H' a rows := by
  obtain ⟨ts, h1, h2⟩ := h
  exact ⟨ts, h1.same s, h2.same s⟩
theorem TrisAt.sq {K : PySem.W.Frag} {CT a : Addr} {H : Hp} {rows : List TRow} (h : TrisAt CT H a rows) : TSq K CT H a rows := by
  obtain ⟨ts, h1, h2, h3⟩ := h
  exact ⟨ts, .inl (SqL.of h1), h2, h3⟩
/-- the first strange place -/
def badP (ws : List Wal) (rows : List TRow) : Option Int := (rows.find? fun r : TRow => !(decide (0 ≤ r.1 ∧ r.1 < ((places ws : Nat) : Int)))).map (·.1)
def spCpX (K : PySem.W.Frag) (C : Errs) (CS : Addr) : Sp := fun vs H Q E => ∃ (r : Addr) (ws : List Wal) (ls : List Lnk) (p : Int), vs = [.ref r, .int p] ∧ SiteAt K CS ws ls H r ∧ Sz p ∧ (¬ (0 ≤ p ∧ p < (places ws : Nat)) → DueX C E (Same H) (.place p)) ∧ (0 ≤ p ∧ p < (places ws : Nat) → Q .non H)
def spCpsX (K : PySem.W.Frag) (C : Errs) (CS CT : Addr) : Sp := fun vs H Q E => ∃ (r t : Addr) (ws : List Wal) (ls : List Lnk) (rows : List TRow), vs = [.ref r, .ref t] ∧ SiteAt K CS ws ls H r ∧ TSq K CT H t rows ∧ (∀ q ∈ rows, Sz q.1) ∧ (∀ p, badP ws rows = some p → DueX C E (Same H) (.place p)) ∧ (badP ws rows = none → Q .non H)
/-- how many rows are misread -/
def misN (x : List Int) (rows : List TRow) : Nat := (rows.filter fun r => !(agR x r)).length
def goodB (ws : List Wal) (ls : List Lnk) (x : List Int) (tr sr : List TRow) (m : Int) : Bool := shapeB ws ls x && (decide (misN x sr = 0) && decide ((misN x tr : Int) ≤ m))
/-- what is due: a strange place, a number, or an answer -/
def dueCk (ws : List Wal) (tr sr : List TRow) (m : Int) : Option Due := match badP ws tr with
  | some p => some (.place p)
  | none => match badP ws sr with
    | some p => some (.place p)
    | none => if m < 0 then some (.num m) else none
def spCks (K : PySem.W.Frag) (C : Errs) (CS CT : Addr) : Sp := fun vs H Q E => ∃ (r t h s : Addr) (m : Int) (ws : List Wal) (ls : List Lnk) (x : List Int) (tr sr : List TRow), vs = [.ref r, .ref t, .ref h, .int m, .ref s] ∧ SiteAt K CS ws ls H r ∧ (toldOf ws ls).length ≤ 900 ∧ linksDue (places ws : Nat) ls = none ∧
  TSq K CT H t tr ∧ TSq K CT H s sr ∧ H h = some (.lst (x.map V.int)) ∧ x.length ≤ 100 ∧ tr.length ≤ 900 ∧ sr.length ≤ 900 ∧ (∀ q ∈ tr, Sz q.1) ∧ (∀ q ∈ sr, Sz q.1) ∧ Sz m ∧
  (∀ b, dueCk ws tr sr m = some b → DueX C E (Same H) b) ∧ (dueCk ws tr sr m = none → ∀ H', Same H H' → Q (.bl (goodB ws ls x tr sr m)) H')
structure CksTxt (K : PySem.W.Frag) (mg : Str → Option Value) (CS fCps fCk fMi : Addr) : Prop where
  cps : mg "check_places" = some (.ref fCps)
  chk : mg "check_not_negative" = some (.ref fCk)
  mis : mg "misread_numbers" = some (.ref fMi)
  cl : Cls K CS
  b_len : mg "len" = none
theorem in_place {ws : List Wal} {rows : List TRow} (h : badP ws rows = none) : inPl ws rows := fun r hr => by
  unfold badP at h
  have := List.find?_eq_none.mp (Option.map_eq_none_iff.mp h) r hr
  simpa using this
section
variable {P : Program} {w : World} {K : PySem.W.Frag} {mg : Str → Option Value} {base : Heap} {CP CT : Addr}
theorem scAgr : FnScope ["self", "heights"] ["self", "heights"] (defScope sAgr) := ⟨rfl, rfl, rfl, by decide +kernel, rfl, by decide +kernel, by decide +kernel⟩
theorem ok_agr {f : Addr} {fd : FuncData} (F : Fun K "agrees" "Trial.agrees" sAgr f fd) (RP : ErrOk P w K mg base "NoPlace" CP "place" okInt) (T : TriTxt K mg CT) (hlen : mg "len" = none) : FnOk P w K mg base (L2.CX P w) 4 f fd ["self", "heights"] (spAgr K CP CT) := by
  refine F.okX scAgr (fun vs H Q E h => ?_) (fun cdv A outer s H vs Q E hr h => ?_)
  · obtain ⟨x, l, p, h, r, xs, rfl, _⟩ := h
    rfl
  · obtain ⟨x, l, p, h, r, xs, rfl, ⟨dx, fs, hx, l1, l2, l3, l4⟩, hS, sp, h1, h2⟩ := h
    have hr3 : Room 3 _ := hr
    have hp' : p.natAbs.log2 < 1920 := log_of (by decide) (Nat.lt_of_lt_of_le sp (Nat.pow_le_pow_right (by decide) (by decide)))
    refine ⟨_, (pss_cons (ps_if (pt_not (pt_chain op_le op_lt pe_int (pe_fld (pv 0) rfl) (pe_callB call_len_seq (by rfl) hlen PySem.boot_len (pa_cons (pv 1) pa_nil)))) (pss_one (ps_err RP rfl (takes_of rfl rfl rfl rfl) hr3 (pa_cons (pe_fld (pv 0) rfl) pa_nil) rfl)) pss_nil)
      (pss_cons (ps_if (pt_val (pe_fld (pv 0) rfl)) (pss_one (ps_ret (pe_cmpR op_le (pe_ix ix_list (pv 1) (pe_fld (pv 0) rfl) (fun _ _ => rfl)) (pe_fld (pv 0) rfl) (nomark _)))) pss_nil)
      (pss_one (ps_ret (pe_cmpR op_gt (pe_ix ix_list (pv 1) (pe_fld (pv 0) rfl) (fun _ _ => rfl)) (pe_fld (pv 0) rfl) (nomark _)))))), ?_⟩
    refine ⟨_, rfl, x, CT, dx, fs, _, rfl, hx, T.cl, T.nP, l1, _, _, rfl, rfl, _, rfl, ?_⟩
    by_cases c0 : 0 ≤ p
    · refine if_t (decide_eq_true c0) ⟨_, rfl, l, _, rfl, .inl hS, _, _, rfl, rfl, _, rfl, ?_⟩
      rw [List.length_map]
      by_cases c1 : p < xs.length
      · obtain ⟨z, hz⟩ : ∃ z, xs[p.toNat]? = some z := ⟨_, List.getElem?_eq_getElem (by omega)⟩
        have hz' : atI (xs.map V.int) p = some (V.int z) := by
          obtain ⟨n, rfl⟩ := Int.eq_ofNat_of_zero_le c0
          exact atI_nat (by rw [List.getElem?_map]; simp at hz; rw [hz]; rfl)
        have hag : agr xs p h r = some (if r then decide (z ≤ h) else decide (h < z)) := by
          unfold agr
          rw [if_pos c0, hz]
          rfl
        have q := h1 _ hag
        refine if_f (by rw [decide_eq_true c1]; rfl) ?_
        refine ⟨_, rfl, x, CT, dx, fs, _, rfl, hx, T.cl, T.nR, l3, r, rfl, ?_⟩
        cases r with
        | true =>
          refine if_t rfl ?_
          refine ⟨_, rfl, _, rfl, x, CT, dx, fs, _, rfl, hx, T.cl, T.nP, l1, l, _, _, _, rfl, rfl, hS, hz', _, rfl, x, CT, dx, fs, _, rfl, hx, T.cl, T.nH, l2, _, _, rfl, rfl, ?_⟩
          exact q
        | false =>
          refine if_f rfl ?_
          refine ⟨_, rfl, _, rfl, x, CT, dx, fs, _, rfl, hx, T.cl, T.nP, l1, l, _, _, _, rfl, rfl, hS, hz', _, rfl, x, CT, dx, fs, _, rfl, hx, T.cl, T.nH, l2, _, _, rfl, rfl, ?_⟩
          exact q
      · have hn : agr xs p h r = none := by
          unfold agr
          rw [if_pos c0, List.getElem?_eq_none (by omega)]
          rfl
        refine if_t (by rw [decide_eq_false c1]; rfl) ⟨_, rfl, x, CT, dx, fs, _, rfl, hx, T.cl, T.nP, l1, ?_⟩
        exact err_way ⟨p, rfl, hp'⟩ fun d hd => h2 hn _ d (fun _ _ e => e) hd
    · have hn : agr xs p h r = none := by
        unfold agr
        rw [if_neg c0]
      refine if_f (decide_eq_false c0) ⟨_, rfl, ?_⟩
      refine if_t rfl ⟨_, rfl, x, CT, dx, fs, _, rfl, hx, T.cl, T.nP, l1, ?_⟩
      exact err_way ⟨p, rfl, hp'⟩ fun d hd => h2 hn _ d (fun _ _ e => e) hd

theorem scMis : FnScope ["trials", "heights", "number", "trial"] ["trials", "heights"] (defScope sMis) := ⟨rfl, rfl, rfl, by decide +kernel, rfl, by decide +kernel, by decide +kernel⟩
theorem find_head {α : Type} {f : α → Bool} {ys : List α} {i : Nat} {y : α} (hy : ys[i]? = some y) (hk : ∀ x ∈ ys.take i, f x = false) (h : f y = true) : ys.find? f = some y := by
  induction ys generalizing i with
  | nil => cases hy
  | cons z zs ih =>
    cases i with
    | zero =>
      cases hy
      rw [List.find?_cons_of_pos h]
    | succ i =>
      have hz : f z = false := hk z (by simp)
      rw [List.find?_cons_of_neg (by rw [hz]; decide)]
      exact ih (by simpa using hy) fun x hx => hk x (by simp [hx])
theorem take_succ_memR {α : Type} {ys : List α} {i : Nat} {x y : α} (hy : ys[i]? = some y) (hx : x ∈ ys.take (i + 1)) : x ∈ ys.take i ∨ x = y := by
  rw [List.take_add_one, hy] at hx
  simpa using hx
theorem ok_mis {f g : Addr} {fd : FuncData} (F : Fun K "misread_numbers" "misread_numbers" sMis f fd) (GA : FnR P w K mg base (L2.CX P w) 4 g (spAgr K CP CT)) (MA : Meth K CT "agrees" g) (T : MiTxt K mg CT) : FnOk P w K mg base (L2.CX P w) 5 f fd ["trials", "heights"] (spMis K CP CT) := by
  refine F.okX scMis (fun vs H Q E h => ?_) (fun cdv A outer s H vs Q E hr h => ?_)
  · obtain ⟨a, l, ts, rows, xs, rfl, _⟩ := h
    rfl
  · obtain ⟨a, l, ts, rows, xs, rfl, hS, hT, hL, h900, hz, h1, h2⟩ := h
    have hr4 : Room 4 _ := hr
    refine ⟨_, (pss_one (ps_ret (CompY.pe_lcX (own := [("number", 2), ("trial", 3)]) (g := gTup K 2 (gCons (gName 2) (gCons (gName 3) gNil))) (tt := fun E => tNot (tB (Own.tMethS CT "agrees" (spAgr K CP CT) (fun _ => E) (tVar 3) (tCons (tVar 1) tNil)))) (te := fun _ => tVar 2) rfl rfl (takes_of rfl rfl rfl rfl)
        { calm := rfl, nd := scMis.nd, it := EnumT.pi_enS (by rfl) T.b_enum (pa_cons (pv 0) pa_nil), ok := blkOk_by (own := [("number", 2), ("trial", 3)]) (N := ["trials", "heights", "number", "trial"]) (sc := defScope sMis) (by decide +kernel), tgt := fun _ _ _ _ _ _ => by exact (pg_tup (n := 2) rfl (pgs_cons (pg_name (i := 2) scMis.nd rfl (Or.inl rfl)) (pgs_cons (pg_name (i := 3) scMis.nd rfl (Or.inl rfl)) pgs_nil))),
          tst := fun _ _ _ _ _ _ E hp => pts_one (pt_not (pt_val (Own.pe_methW (E := fun _ => E) (pv 3) T.cl MA GA hr4 hp (pa_cons (pv 1) pa_nil)))), elm := fun _ _ _ _ _ _ E hp => (pv 2), fold := by intro _; rfl }))), ?_⟩
    refine ⟨_, rfl, a, ts.map V.ref, rfl, hS, fun J wk D hD => ?_⟩
    refine lc_it wk (fun i H' => LcP D H (fun i : Nat => if (rows[i]?.bind (agr3 xs)) = some false then some (V.int (i : Nat)) else none) i H' ∧ ∀ q ∈ rows.take i, (agr3 xs q).isNone = false) ⟨LcP.start hD, by simp⟩ (fun i H' _ p => p.1.2) ?_ ?_
    · rintro i x H' H'' hi ⟨p, hk⟩ ⟨t, y, z, rfl, ht, rfl, ey, ez⟩
      rw [List.length_map] at hi
      obtain ⟨u, hu⟩ : ∃ u, ts[i]? = some u := ⟨_, List.getElem?_eq_getElem hi⟩
      obtain ⟨q, hq⟩ : ∃ q, rows[i]? = some q := ⟨_, List.getElem?_eq_getElem (by rw [← hT.1]; exact hi)⟩
      have ez : (ts.map V.ref)[i]? = some z := ez
      have ey : some (V.int (i : Nat)) = some y := ey
      rw [List.getElem?_map, hu] at ez
      cases ez
      cases ey
      have st := same_new (o := .tup [V.int (i : Nat), V.ref u]) ht
      have S := same_tr p.2 st
      have hX := (hT.2 i u q hu hq).same S
      obtain ⟨dx, fs, hx, l1, l2, l3, l4⟩ := id hX
      have hiz : i < 900 := by
        have := hT.1
        omega
      refine ⟨t, _, rfl, SqT.of upd_same, rfl, _, _, rfl, _, _, rfl, rfl, rfl, _, rfl, u, dx, fs, rfl, hx, l4, _, rfl, u, l, q.1, q.2.1, q.2.2, xs, rfl, hX, sqL_same hL S, hz q (List.mem_of_getElem? hq), fun b hb => ?_, fun hn => ?_⟩
      · have eb : rows[i]?.bind (agr3 xs) = some b := by
          rw [hq]
          exact hb
        have hk' : ∀ x ∈ rows.take (i + 1), (agr3 xs x).isNone = false := fun x hx => by
          rcases take_succ_memR hq hx with hx | rfl
          · exact hk x hx
          · show (agr xs x.1 x.2.1 x.2.2).isNone = false
            rw [hb]
            rfl
        cases b with
        | true => exact ⟨true, rfl, if_f rfl ⟨p.skip st (by rw [eb]; rfl), hk'⟩⟩
        | false =>
          refine ⟨false, rfl, if_t rfl ⟨_, rfl, ?_⟩⟩
          obtain ⟨acc, a1, a2, a3⟩ := p.push hD st (y := V.int (i : Nat)) (by rw [eb]; rfl) (by omega)
          exact ⟨acc, a1, a2, a3, hk'⟩
      · refine fun H4 d S4 hd => h1 q.1 ?_ _ d (same_tr S S4) hd
        unfold strangeR
        rw [find_head hq hk (by unfold agr3; rw [hn]; rfl)]
        rfl
    · rintro H' ⟨⟨g1, s1⟩, hk⟩
      rw [List.length_map, hT.1] at g1 hk
      rw [List.take_length] at hk
      have hst : strangeR xs rows = none := by
        unfold strangeR
        rw [List.find?_eq_none.mpr fun q hq => by rw [hk q hq]; decide]
        rfl
      refine h2 hst D H' s1 ?_ hD
      rw [g1]
      unfold wrong
      rw [List.map_filterMap]
      refine congrArg HO.lst (congrArg (fun f => List.filterMap f _) ?_) |> congrArg some
      funext i
      split <;> rfl

end
section
variable {P : Program} {w : World} {K : PySem.W.Frag} {mg : Str → Option Value} {base : Heap} {C : Errs} {CS CT : Addr}
set_option maxHeartbeats 0 in
theorem ok_cpx {f : Addr} {fd : FuncData} (F : Fun K "check_place" "Site.check_place" sCp f fd) (RP : ErrOk P w K mg base "NoPlace" C.P "place" okInt) (T : MeTxt K mg CS) : FnOk P w K mg base (L2.CX P w) 4 f fd ["self", "place"] (spCpX K C CS) := by
  refine F.okX scCp (fun vs H Q E h => ?_) (fun cdv A outer s H vs Q E hr h => ?_)
  · obtain ⟨r, ws, ls, p, rfl, _⟩ := h
    rfl
  · obtain ⟨r, ws, ls, p, rfl, hS, zp, h1, h2⟩ := h
    have hr3 : Room 3 _ := hr
    refine ⟨_, (pss_one (ps_if (pt_not (pt_chain op_le op_lt pe_int (pv 1) (pe_fld (pv 0) rfl))) (pss_one (ps_err RP rfl (takes_of rfl rfl rfl rfl) hr3 (pa_cons (pv 1) pa_nil) rfl)) pss_nil)), ?_⟩
    obtain ⟨dx, fs, pr, pl, ps, pd, pt, h0, _, _, _, _, _, f1, g1, _⟩ := id hS
    refine ⟨_, rfl, _, _, rfl, rfl, _, rfl, ?_⟩
    by_cases c0 : 0 ≤ p
    · refine if_t (decide_eq_true c0) ⟨_, rfl, r, CS, dx, fs, _, rfl, h0, T.cl, T.na _ (by decide), f1, _, _, rfl, rfl, _, rfl, ?_⟩
      by_cases c1 : p < (places ws : Nat)
      · exact if_f (by rw [decide_eq_true c1]; rfl) (h2 ⟨c0, c1⟩)
      · refine if_t (by rw [decide_eq_false c1]; rfl) ⟨_, rfl, ?_⟩
        exact err_way zp.ok fun d hd => h1 (fun y => c1 y.2) _ d same_rfl hd
    · refine if_f (decide_eq_false c0) ⟨_, rfl, ?_⟩
      refine if_t rfl ⟨_, rfl, ?_⟩
      exact err_way zp.ok fun d hd => h1 (fun y => c0 y.1) _ d same_rfl hd
set_option maxHeartbeats 0 in
theorem ok_cpsx {f fCp : Addr} {fd : FuncData} (F : Fun K "check_places" "check_places" sCps f fd) (GCp : FnR P w K mg base (L2.CX P w) 4 fCp (spCpX K C CS)) (MCp : Meth K CS "check_place" fCp) (T : MeTxt K mg CS) (TT : TriTxt K mg CT) : FnOk P w K mg base (L2.CX P w) 5 f fd ["site", "trials"] (spCpsX K C CS CT) := by
  refine F.okX scCps (fun vs H Q E h => ?_) (fun cdv A outer s H vs Q E hr h => ?_)
  · obtain ⟨r, t, ws, ls, rows, rfl, _⟩ := h
    rfl
  · obtain ⟨r, t, ws, ls, rows, rfl, hS, hT, zs, h1, h2⟩ := h
    have hr4 : Room 4 _ := hr
    refine ⟨_, (pss_one (ps_for (passes_of rfl) rfl (pi_seq (pv 1)) (pg_name (i := 2) scCps.nd rfl (Or.inl rfl)) (pss_one (ps_expr (Own.pe_methW (E := fun _ => E) (pv 0) T.cl MCp GCp hr4 (passS (passes_call (takes_of rfl rfl rfl rfl) fun _ _ _ _ z => z)) (pa_cons (pe_fld (pv 2) rfl) pa_nil)))))), ?_⟩
    obtain ⟨dx, fs, pr, pl, ps, pd, pt, h0, _, _, _, _, _, f1, g1, _⟩ := id hS
    obtain ⟨ts, t1, t2, t3⟩ := id hT
    refine ⟨_, rfl, t, _, rfl, t1, fun J wk => ?_⟩
    refine for_it wk (fun i σ' H' => ∃ v2 : Option V, σ' = [some (.ref r), some (.ref t), v2] ∧ H' = H ∧ ∀ q ∈ rows.take i, 0 ≤ q.1 ∧ q.1 < (places ws : Nat))
      ⟨_, rfl, rfl, by simp⟩ (fun i σ' H' _ h => by obtain ⟨_, _, rfl, _⟩ := h; exact same_rfl) ?_ ?_
    · rintro i y σ' H2 H3 hi ⟨v2, rfl, rfl, kk⟩ ⟨rfl, hy⟩
      rw [List.length_map] at hi
      have hy : (ts.map V.ref)[i]? = some y := hy
      rw [List.getElem?_map, List.getElem?_eq_getElem hi] at hy
      cases hy
      obtain ⟨x, hx⟩ : ∃ x, rows[i]? = some x := ⟨_, List.getElem?_eq_getElem (by omega)⟩
      obtain ⟨dt, ft, a1, a2, a3, a4, _⟩ := t3 i _ _ (List.getElem?_eq_getElem hi) hx
      refine ⟨_, rfl, r, dx, fs, rfl, h0, g1 _ (by decide), _, rfl, _, CT, dt, ft, _, rfl, a1, TT.cl, TT.nP, a2, r, ws, ls, _, rfl, hS, zs x (List.mem_of_getElem? hx), fun hn => ?_, fun hp => ?_⟩
      · refine h1 x.1 ?_
        unfold badP
        rw [find_head hx (fun q hq => by rw [decide_eq_true (kk q hq)]; rfl) (by rw [decide_eq_false hn]; rfl)]
        rfl
      · refine ⟨_, rfl, rfl, fun q hq => ?_⟩
        rcases take_succ_memR hx hq with hq | rfl
        · exact kk q hq
        · exact hp
    · rintro σ' H2 ⟨v2, rfl, rfl, kk⟩
      rw [List.length_map, t2, List.take_length] at kk
      refine h2 ?_
      unfold badP
      rw [List.find?_eq_none.mpr fun q hq => by rw [decide_eq_true (kk q hq)]; decide]
      rfl
theorem scCks : FnScope ["site", "trials", "heights", "misreads", "sure"] ["site", "trials", "heights", "misreads", "sure"] (defScope sCks) := ⟨rfl, rfl, rfl, by decide +kernel, rfl, by decide +kernel, by decide +kernel⟩
theorem shape_len {ws : List Wal} {ls : List Lnk} {x : List Int} (h : shapeB ws ls x = true) : x.length = places ws := by
  by_cases c : x.length = places ws
  · exact c
  · rw [shape_not c] at h
    cases h
/-- what is wrong of rows in place -/
theorem wrong_len {ws : List Wal} {x : List Int} (hl : x.length = places ws) {rows : List TRow} (hp : inPl ws rows) : strangeR x rows = none ∧ (wrong x rows).length = misN x rows := by
  have ag : ∀ r ∈ rows, agr3 x r = some (agR x r) := fun r hr => by
    obtain ⟨p0, p1⟩ := hp r hr
    have hi : r.1.toNat < x.length := by omega
    unfold agr3 agr agR
    rw [if_pos p0, List.getElem?_eq_getElem hi, List.getD_eq_getElem?_getD, List.getElem?_eq_getElem hi]
    cases r.2.2
    · show some (decide (r.2.1 < x[r.1.toNat])) = some (decide (x[r.1.toNat] ≤ r.2.1) == false)
      congr 1
      by_cases c : x[r.1.toNat] ≤ r.2.1
      · rw [decide_eq_true c, decide_eq_false (by omega)]
        rfl
      · rw [decide_eq_false c, decide_eq_true (by omega)]
        rfl
    · show some (decide (x[r.1.toNat] ≤ r.2.1)) = some (decide (x[r.1.toNat] ≤ r.2.1) == true)
      cases decide (x[r.1.toNat] ≤ r.2.1) <;> rfl
  constructor
  · unfold strangeR
    rw [List.find?_eq_none.mpr fun r hr => by rw [ag r hr]; simp]
    rfl
  · unfold wrong misN
    rw [List.length_filterMap_eq_countP, ← List.countP_eq_length_filter]
    have e := congrArg (fun l => l.length) (range_fm (fun r => if agr3 x r = some false then some () else none) rows)
    rw [List.length_filterMap_eq_countP, List.length_filterMap_eq_countP] at e
    have e1 : List.countP (fun i : Nat => (if (rows[i]?.bind (agr3 x)) = some false then some (i : Int) else none).isSome) (List.range rows.length) = List.countP (fun i : Nat => (rows[i]?.bind fun r => if agr3 x r = some false then some () else none).isSome) (List.range rows.length) := by
      congr 1
      funext i
      cases rows[i]? with
      | none => rfl
      | some r =>
        show (if agr3 x r = some false then some (i : Int) else none).isSome = (if agr3 x r = some false then some () else none).isSome
        split <;> rfl
    rw [e1, e]
    refine List.countP_congr fun r hr => ?_
    rw [ag r hr]
    cases agR x r <;> simp
set_option maxHeartbeats 0 in
theorem ok_cks {f fCps fCk fMi fFi aD : Addr} {fd fdCps fdCk fdMi : FuncData} (F : FunD K "check_shape" "check_shape" (defArgs sCks) (defBody sCks) (defScope sCks) [] [("misreads", .int 0), ("sure", .ref aD)] f fd)
    (GCps : FnOk P w K mg base (L2.CX P w) 5 fCps fdCps ["site", "trials"] (spCpsX K C CS CT)) (FCps : Fun K "check_places" "check_places" sCps fCps fdCps) (bCps : Binds K fdCps ["site", "trials"] [])
    (GCk : FnOk P w K mg base (L2.CX P w) 4 fCk fdCk ["number"] (spChk C.B)) (FCk : Fun K "check_not_negative" "check_not_negative" sChk fCk fdCk) (bCk : Binds K fdCk ["number"] [])
    (GMi : FnOk P w K mg base (L2.CX P w) 5 fMi fdMi ["trials", "heights"] (spMis K C.P CT)) (FMi : Fun K "misread_numbers" "misread_numbers" sMis fMi fdMi) (bMi : Binds K fdMi ["trials", "heights"] [])
    (GFi : FnR P w K mg base CX0 1 fFi (spSfi K CS)) (MFi : Meth K CS "fits" fFi) (T : CksTxt K mg CS fCps fCk fMi) : FnOk P w K mg base (L2.CX P w) 6 f fd ["site", "trials", "heights", "misreads", "sure"] (spCks K C CS CT) := by
  refine F.ok scCks (fun vs H Q E h => ?_) (fun cdv A outer s H vs Q E hr h => ?_)
  · obtain ⟨r, t, h, s, m, ws, ls, x, tr, sr, rfl, _⟩ := h
    rfl
  · obtain ⟨r, t, h, s', m, ws, ls, x, tr, sr, rfl, hS, tl9, hld, hT, hU, hx, xl, tl, sl, zt, zs, zm, h1, h2⟩ := h
    have hr5 : Room 5 _ := hr
    have hr4 : Room 4 _ := hr.mono (by decide)
    have hr1 : Room 1 _ := hr.mono (by decide)
    have pp : Passes (L2.CX P w) (cxOf (L2.CX P w) P w K mg base ["site", "trials", "heights", "misreads", "sure"] "check_shape" (defScope sCks) f cdv A outer s H E) E := passes_call (takes_of rfl rfl rfl rfl) fun _ _ _ _ z => z
    refine ⟨_, (pss_cons (ps_expr (pe_call GCps hr5 rfl T.cps FCps.kp bCps .nil pp (pa_cons (pv 0) (pa_cons (pv 1) pa_nil))))
      (pss_cons (ps_expr (pe_call GCps hr5 rfl T.cps FCps.kp bCps .nil pp (pa_cons (pv 0) (pa_cons (pv 4) pa_nil))))
      (pss_cons (ps_expr (pe_call GCk hr4 rfl T.chk FCk.kp bCk .nil pp (pa_cons (pv 3) pa_nil)))
      (pss_cons (ps_if (PW.pt (pw_or (pt_not (pt_val (Own.pe_methW (E := fun _ => E) (pv 0) T.cl MFi GFi hr1 (passS pass0) (pa_cons (pv 2) pa_nil)))) (pw_or1 (pt_truth (pe_call GMi hr5 rfl T.mis FMi.kp bMi .nil pp (pa_cons (pv 4) (pa_cons (pv 2) pa_nil))) (by intro _; rfl))))) (pss_one (ps_ret pe_bl)) pss_nil)
      (pss_one (ps_ret (pe_cmpR op_le (pe_callB call_len_seq (by rfl) T.b_len PySem.boot_len (pa_cons (pe_call GMi hr5 rfl T.mis FMi.kp bMi .nil pp (pa_cons (pv 1) (pa_cons (pv 2) pa_nil))) pa_nil)) (pv 3) (nomark _)))))))), ?_⟩
    obtain ⟨dx, fs, pr, pl, ps, pd, pt, h0, _, _, _, _, _, f1, g1, _⟩ := id hS
    refine ⟨_, rfl, _, rfl, r, t, ws, ls, tr, rfl, hS, hT, zt, fun p hp => h1 _ (by unfold dueCk; rw [hp]), fun hp1 => ?_⟩
    refine ⟨_, rfl, _, rfl, r, s', ws, ls, sr, rfl, hS, hU, zs, fun p hp => h1 _ (by unfold dueCk; rw [hp1]; show (match badP ws sr with | some p => some (Due.place p) | none => if m < 0 then some (.num m) else none) = _; rw [hp]), fun hp2 => ?_⟩
    have ed : dueCk ws tr sr m = if m < 0 then some (.num m) else none := by
      unfold dueCk
      rw [hp1]
      show (match badP ws sr with | some p => some (Due.place p) | none => if m < 0 then some (.num m) else none) = _
      rw [hp2]
    have sz1 : ∀ {z : Int}, Sz z → z.natAbs < 2 ^ 1000 := fun h => Nat.lt_of_lt_of_le h (Nat.pow_le_pow_right (by decide) (by decide))
    refine ⟨_, rfl, m, rfl, sz1 zm, fun hm d hd => h1 (.num m) (by rw [ed, if_pos hm]) H d same_rfl hd, fun hm => ?_⟩
    have hq := h2 (by rw [ed]; exact if_neg (by omega))
    have np1 := in_place hp1
    have np2 := in_place hp2
    refine ⟨_, rfl, r, dx, fs, rfl, h0, g1 _ (by decide), _, rfl, r, h, ws, ls, x, rfl, hS.f, hx, xl, hld, tl9, fun H1 s1 => ?_⟩
    unfold goodB at hq
    cases es : shapeB ws ls x with
    | false =>
      rw [es] at hq
      exact ⟨_, rfl, if_t rfl (hq _ s1)⟩
    | true =>
      rw [es] at hq
      have lx := shape_len es
      obtain ⟨w1, w2⟩ := wrong_len lx np1
      obtain ⟨w3, w4⟩ := wrong_len lx np2
      obtain ⟨us, u1, u2⟩ := hU.same s1
      refine ⟨_, rfl, if_f rfl ?_⟩
      refine ⟨_, rfl, _, rfl, s', h, us, sr, x, rfl, u1, u2, SqL.of (s1 _ _ hx), sl, fun q hq => sz1 (zs q hq), fun p hp => (by rw [w3] at hp; cases hp), fun _ D H2 s2 eD hD => ?_⟩
      refine ⟨_, .inl ⟨_, SqL.of eD, rfl⟩, ?_⟩
      have S2 := same_tr s1 s2
      by_cases c : misN x sr = 0
      · have ew : wrong x sr = [] := List.length_eq_zero_iff.mp (w4.trans c)
        rw [decide_eq_true c] at hq
        refine if_f (by rw [ew]; rfl) ?_
        obtain ⟨vs, v1, v2⟩ := hT.same S2
        refine ⟨_, rfl, _, rfl, t, h, vs, tr, x, rfl, v1, v2, SqL.of (S2 _ _ hx), tl, fun q hq => sz1 (zt q hq), fun p hp => (by rw [w1] at hp; cases hp), fun _ D3 H3 s3 e3 h3 => ?_⟩
        refine ⟨D3, _, rfl, .inl (SqL.of e3), _, rfl, _, _, rfl, rfl, ?_⟩
        rw [List.length_map, w2]
        exact hq _ (same_tr S2 s3)
      · rw [decide_eq_false c] at hq
        refine if_t ?_ (hq _ S2)
        cases ew : wrong x sr with
        | nil => exact absurd (w4.symm.trans (by rw [ew]; rfl)) c
        | cons a r => rfl
end
end Law

/-! The law's own counts, and the checks asked. -/
namespace Law
open PySem PySem.Spec PyProof.Rows L2 Sup ItSeq
abbrev sSay : Stmt := top 41
abbrev sMsr : Stmt := top 51
abbrev sOut : Stmt := top 52
abbrev sDue : Stmt := top 53
abbrev sChg : Stmt := top 54
def spSay : Sp := fun vs H Q _ => ∃ a b : Bool, vs = [.bl a, .bl b] ∧ Q (.bl (decide (a = b))) H
def spMsr : Sp := fun vs H Q _ => ∃ (a h : Addr) (x : List Int) (rows : List TRow), vs = [.ref a, .ref h] ∧ H h = some (.lst (x.map V.int)) ∧ RwAt H a rows ∧ (∀ r ∈ rows, 0 ≤ r.1 ∧ r.1 < x.length) ∧ rows.length ≤ 900 ∧ ∀ H', Same H H' → Q (.int (misN x rows : Nat)) H'
def spOut (K : PySem.W.Frag) (CS CT : Addr) : Sp := fun vs H Q _ => ∃ (r t h s : Addr) (m : Int) (ws : List Wal) (ls : List Lnk) (x : List Int) (tr sr : List TRow), vs = [.ref r, .ref t, .ref h, .ref s, .int m] ∧ SiteAt K CS ws ls H r ∧ (toldOf ws ls).length ≤ 900 ∧ linksDue (places ws : Nat) ls = none ∧
  TSq K CT H t tr ∧ TSq K CT H s sr ∧ H h = some (.lst (x.map V.int)) ∧ x.length ≤ 100 ∧ tr.length ≤ 900 ∧ sr.length ≤ 900 ∧ (∀ q ∈ tr, Sz q.1) ∧ (∀ q ∈ sr, Sz q.1) ∧ Sz m ∧
  (∀ p, dueCk ws tr sr m = some (.place p) → ∀ (u : Addr) (H' : Hp), H u = none → Same H H' → H' u = some (.tup [.str "NoPlace", .int p]) → Q (.ref u) H') ∧
  (∀ p, dueCk ws tr sr m = some (.num p) → ∀ (u : Addr) (H' : Hp), H u = none → Same H H' → H' u = some (.tup [.str "BadNumber", .int p]) → Q (.ref u) H') ∧
  (dueCk ws tr sr m = none → ∀ H', Same H H' → Q (.bl (goodB ws ls x tr sr m)) H')
def spDue : Sp := fun vs H Q _ => ∃ (u a b h : Addr) (ws : List Wal) (ls : List Lnk) (x : List Int) (tr sr : List TRow) (m : Int), vs = [.ref u, .ref a, .ref b, .ref h, .int m, .int (places ws : Nat)] ∧ LimsAt H u (stepsOf ws ls) ∧ linksDue (places ws : Nat) ls = none ∧ RwAt H a tr ∧ RwAt H b sr ∧ H h = some (.lst (x.map V.int)) ∧ x.length ≤ 100 ∧
  inPl ws tr ∧ inPl ws sr ∧ tr.length ≤ 900 ∧ sr.length ≤ 900 ∧ ∀ H', Same H H' → Q (.bl (goodB ws ls x tr sr m)) H'
def spChg : Sp := fun vs H Q _ => ∃ (b l c : Addr) (hs : List Int), vs = [.ref b, .ref c] ∧ Box H b l ∧ H c = some (.lst (hs.map V.int)) ∧ 1 ≤ hs.length ∧ hs.length ≤ 50 ∧
  ∀ (D : Addr) (x : List Int) (H' : Hp), H D = none → H' D = some (.lst (x.map V.int)) → x.length ≤ 60 → Box H' b l → SameB b H H' → Q (.ref D) H'
def gKw {α : Type} (us _mv ws : List α) : List α := match ws with
  | [a, b] => us ++ [b, a]
  | _ => us
theorem gKw_rel {vs mz zs : List V} {us mv ws : List Value} (hv : Vals vs us) (_hm : Vals mz mv) (hz : Vals zs ws) : Vals (gKw vs mz zs) (gKw us mv ws) := by
  cases hz with
  | nil => exact hv
  | cons r1 h1 =>
    cases h1 with
    | nil => exact hv
    | cons r2 h2 =>
      cases h2 with
      | nil => exact hv.append (.cons r2 (.cons r1 .nil))
      | cons _ _ => exact hv
def gVk (vs zs : List V) : List V := gKw vs [] zs
structure BlTxt (mg : Str → Option Value) : Prop where
  b_len : mg "len" = none
structure DuTxt (mg : Str → Option Value) (fLF fMs : Addr) : Prop where
  fits : mg "_law_fits" = some (.ref fLF)
  msr : mg "_law_misread" = some (.ref fMs)
  b_len : mg "len" = none
structure ChTxt (mg : Str → Option Value) (fT : Addr) : Prop where
  take : mg "_law_take" = some (.ref fT)
  b_len : mg "len" = none
  b_range : mg "range" = none
  b_list : mg "list" = none
theorem was_none {H H' : Hp} {t : Addr} (s : Same H H') (h : H' t = none) : H t = none := by
  cases e : H t with
  | none => rfl
  | some o => rw [s _ _ e] at h; cases h
theorem dueCk_cases {ws : List Wal} {tr sr : List TRow} {m : Int} {b : Due} (h : dueCk ws tr sr m = some b) : (∃ p, b = .place p) ∨ ∃ p, b = .num p := by
  unfold dueCk at h
  split at h
  · cases h
    exact .inl ⟨_, rfl⟩
  · split at h
    · cases h
      exact .inl ⟨_, rfl⟩
    · split at h
      · cases h
        exact .inr ⟨_, rfl⟩
      · cases h
section
variable {P : Program} {w : World} {K : PySem.W.Frag} {mg : Str → Option Value} {base : Heap} {C : Errs} {CS CT : Addr}
theorem scSay : FnScope ["_law_told", "_law_due_here"] ["_law_told", "_law_due_here"] (defScope sSay) := ⟨rfl, rfl, rfl, by decide +kernel, rfl, by decide +kernel, by decide +kernel⟩
theorem scMsr : FnScope ["_law_rows", "_law_heights", "_law_row"] ["_law_rows", "_law_heights"] (defScope sMsr) := ⟨rfl, rfl, rfl, by decide +kernel, rfl, by decide +kernel, by decide +kernel⟩
theorem scOut : FnScope ["_law_site", "_law_trials_here", "_law_heights", "_law_pins", "_law_spare", "e"] ["_law_site", "_law_trials_here", "_law_heights", "_law_pins", "_law_spare"] (defScope sOut) := ⟨rfl, rfl, rfl, by decide +kernel, rfl, by decide +kernel, by decide +kernel⟩
theorem scDue : FnScope ["_law_steps_here", "_law_rows", "_law_fixed", "_law_heights", "_law_spare", "_law_many"] ["_law_steps_here", "_law_rows", "_law_fixed", "_law_heights", "_law_spare", "_law_many"] (defScope sDue) := ⟨rfl, rfl, rfl, by decide +kernel, rfl, by decide +kernel, by decide +kernel⟩
theorem scChg : FnScope ["_law_box_here", "_law_truth_here", "_law_heights", "_law_k", "_law_at", "_law_way"] ["_law_box_here", "_law_truth_here"] (defScope sChg) := ⟨rfl, rfl, rfl, by decide +kernel, rfl, by decide +kernel, by decide +kernel⟩
theorem ok_say {f : Addr} {fd : FuncData} (F : Fun K "_law_says" "_law_says" sSay f fd) : FnOk P w K mg base CX0 1 f fd ["_law_told", "_law_due_here"] spSay := by
  refine F.ok scSay (fun vs H Q E h => ?_) (fun cdv A outer s H vs Q E hr h => ?_)
  · obtain ⟨a, b, rfl, _⟩ := h
    rfl
  · obtain ⟨a, b, rfl, k⟩ := h
    refine ⟨_, (pss_cons (ps_if (pt_val (pv 1)) (pss_one (ps_ret (pe_cmpR op_is_bl (pv 0) pe_bl (nomark _)))) pss_nil)
      (pss_one (ps_ret (pe_cmpR op_is_bl (pv 0) pe_bl (nomark _))))), ?_⟩
    cases b with
    | true => exact ⟨_, rfl, true, rfl, if_t rfl ⟨_, rfl, a, true, rfl, rfl, k⟩⟩
    | false => exact ⟨_, rfl, false, rfl, if_f rfl ⟨_, rfl, a, false, rfl, rfl, k⟩⟩
theorem mis_out (x : List Int) : ∀ (ps : List (Addr × TRow)), (ps.filterMap fun p => if agR x p.2 = true then none else some (V.ref p.1)).length = misN x (ps.map (·.2))
  | [] => rfl
  | p :: ps => by
    have ih := mis_out x ps
    unfold misN at ih ⊢
    rw [List.filterMap_cons, List.map_cons, List.filter_cons]
    cases h : agR x p.2 with
    | true => simpa [h] using ih
    | false => simpa [h] using ih
set_option maxHeartbeats 0 in
theorem ok_msr {f : Addr} {fd : FuncData} (F : Fun K "_law_misread" "_law_misread" sMsr f fd) (T : BlTxt mg) : FnOk P w K mg base CX0 1 f fd ["_law_rows", "_law_heights"] spMsr := by
  refine F.ok scMsr (fun vs H Q E h => ?_) (fun cdv A outer s H vs Q E hr h => ?_)
  · obtain ⟨a, h, x, rows, rfl, _⟩ := h
    rfl
  · obtain ⟨a, h, x, rows, rfl, hx, ⟨ts, t1, t2, t3⟩, hp, l9, k⟩ := h
    refine ⟨_, (pss_one (ps_ret (pe_callB call_len_seq (by rfl) T.b_len PySem.boot_len (pa_cons (pe_lc (own := [("_law_row", 2)]) (g := gName 2) (by rfl) scMsr.nd (pi_list (pv 0)) (blkOk_by (own := [("_law_row", 2)]) (N := ["_law_rows", "_law_heights", "_law_row"]) (sc := defScope sMsr) (by decide +kernel)) (fun _ _ _ _ _ => pg_name (i := 2) scMsr.nd rfl (Or.inl rfl)) (fun _ _ _ _ _ => (pts_one (pt_cmpR op_ne (pe_cmpR op_le (pe_ix (r := rIxL K) ix_list (pv 1) (pe_ix (r := rIxT K) ix_tup (pv 2) pe_int (fun _ _ => rfl)) (fun _ _ => rfl)) (pe_ix (r := rIxT K) ix_tup (pv 2) pe_int (fun _ _ => rfl)) (nomark _)) (pe_ix (r := rIxT K) ix_tup (pv 2) pe_int (fun _ _ => rfl)) (nomark _)))) (fun _ _ _ _ _ => (pv 2))) pa_nil)))), ?_⟩
    refine ⟨_, rfl, a, rfl, ⟨_, SqL.of t1⟩, fun D hD => ?_⟩
    refine lc_it (walk_list (xs := ts.map V.ref)) (LcP D H fun i => (ts.zip rows)[i]?.bind fun p => if agR x p.2 = true then none else some (V.ref p.1)) (LcP.start hD) (fun _ _ _ h => SqL.of (h.2 _ _ t1)) ?_ ?_
    · rintro i q H6 H7 hi ⟨B1, B2⟩ ⟨rfl, hy⟩
      have B : LcP D H (fun i => (ts.zip rows)[i]?.bind fun p => if agR x p.2 = true then none else some (V.ref p.1)) i H7 := ⟨B1, B2⟩
      rw [List.length_map] at hi
      rw [List.getElem?_map, List.getElem?_eq_getElem hi] at hy
      cases hy
      obtain ⟨e, he⟩ : ∃ e, rows[i]? = some e := ⟨_, List.getElem?_eq_getElem (by omega)⟩
      have z := B.2 _ _ (t3 i _ e (List.getElem?_eq_getElem hi) he)
      obtain ⟨e0, e1⟩ := hp e (List.mem_of_getElem? he)
      have hx7 := B.2 _ _ hx
      have ez : (ts.zip rows)[i]? = some (ts[i], e) := List.getElem?_zip_eq_some.mpr ⟨List.getElem?_eq_getElem hi, he⟩
      have hi2 : e.1.toNat < x.length := by omega
      have ax : atI (x.map V.int) e.1 = some (.int (x.getD e.1.toNat 0)) := by
        obtain ⟨n, hn⟩ := Int.eq_ofNat_of_zero_le e0
        rw [hn] at hi2 ⊢
        refine atI_nat ?_
        rw [List.getElem?_map, List.getD_eq_getElem?_getD]
        show _ = some (V.int ((x[n]?).getD 0))
        have hi3 : n < x.length := hi2
        rw [List.getElem?_eq_getElem hi3]
        rfl
      refine ⟨rfl, _, rfl, _, rfl, ts[i], _, 0, _, rfl, rfl, SqT.of z, rfl, h, _, _, _, rfl, rfl, SqL.of hx7, ax, _, rfl, ts[i], _, 1, _, rfl, rfl, SqT.of z, rfl, _, _, rfl, rfl, _, rfl, ts[i], _, 2, _, rfl, rfl, SqT.of z, rfl, rfl, _, rfl, ite2 (fun c => ?_) (fun c => ?_)⟩
      · refine ⟨_, rfl, B.push hD same_rfl ?_ (by omega)⟩
        rw [ez]
        refine if_neg fun g => ?_
        have c : (!decide (V.bl (decide (x.getD e.1.toNat 0 ≤ e.2.1)) = V.bl e.2.2)) = true := c
        have g : (decide (x.getD e.1.toNat 0 ≤ e.2.1) == e.2.2) = true := g
        revert c g
        generalize decide (x.getD e.1.toNat 0 ≤ e.2.1) = A
        generalize e.2.2 = B'
        cases A <;> cases B' <;> simp
      · refine B.skip same_rfl ?_
        rw [ez]
        refine if_pos ?_
        have c : ¬ (!decide (V.bl (decide (x.getD e.1.toNat 0 ≤ e.2.1)) = V.bl e.2.2)) = true := c
        show (decide (x.getD e.1.toNat 0 ≤ e.2.1) == e.2.2) = true
        revert c
        generalize decide (x.getD e.1.toNat 0 ≤ e.2.1) = A
        generalize e.2.2 = B'
        cases A <;> cases B' <;> simp
    rintro H5 ⟨b1, b2⟩
    have zl : (ts.zip rows).length = (ts.map V.ref).length := by rw [List.length_map, List.length_zip, t2, Nat.min_self]
    rw [← zl, range_fm] at b1
    refine ⟨D, _, rfl, .inl (SqL.of b1), ?_⟩
    rw [mis_out, List.map_snd_zip (Nat.le_of_eq t2.symm)]
    exact k _ b2
set_option maxHeartbeats 0 in
theorem ok_out {f fCs aD : Addr} {fd fdCs : FuncData} (F : Fun K "_law_outcome" "_law_outcome" sOut f fd) (RP : ErrOk P w K mg base "NoPlace" C.P "place" okInt) (RB : ErrOk P w K mg base "BadNumber" C.B "value" okInt) (hbp : PySem.W.exmOne K (.ref C.B) (.ref C.P) = some false)
    (GCs : FnOk P w K mg base (L2.CX P w) 6 fCs fdCs ["site", "trials", "heights", "misreads", "sure"] (spCks K C CS CT)) (FCs : FunD K "check_shape" "check_shape" (defArgs sCks) (defBody sCks) (defScope sCks) [] [("misreads", .int 0), ("sure", .ref aD)] fCs fdCs) {gk : List Value → List Value → List Value}
    (bCs : KBn K fdCs ["site", "trials", "heights", "misreads", "sure"] 3 ["sure", "misreads"] gk gVk) (hcs : mg "check_shape" = some (.ref fCs)) : FnOk P w K mg base CX0 7 f fd ["_law_site", "_law_trials_here", "_law_heights", "_law_pins", "_law_spare"] (spOut K CS CT) := by
  refine F.ok scOut (fun vs H Q E h => ?_) (fun cdv A outer s H vs Q E hr h => ?_)
  · obtain ⟨r, t, h, s, m, ws, ls, x, tr, sr, rfl, _⟩ := h
    rfl
  · obtain ⟨r, t, h, s', m, ws, ls, x, tr, sr, rfl, hS, tl9, hld, hT, hU, hx, xl, tl, sl, zt, zs, zm, h1, h2, h3⟩ := h
    refine ⟨_, (pss_one (TryAs.ps_try_asM (l := [((Value.ref C.P : Value), 5, (fun a cls d => tRet (tTup (tCons (tC (.str "NoPlace")) (tCons (tXf a cls d C.P "place" (tVar 5)) tNil))) : TryAs.Su)), ((Value.ref C.B : Value), 5, (fun a cls d => tRet (tTup (tCons (tC (.str "BadNumber")) (tCons (tXf a cls d C.B "value" (tVar 5)) tNil))) : TryAs.Su))]) (tb := fun W => tRet (KwN.tCallNS 3 ([("sure" : Str), ("misreads" : Str)] : List Str).length (spCks K C CS CT) gVk (WE W) (tCons (tVar 0) (tCons (tVar 1) (tCons (tVar 2) tNil))) (tCons (tVar 3) (tCons (tVar 4) tNil)))) (Wout := fun _ _ _ _ => False) rfl rfl scOut.nd takes0
        (fun W pn xe tk _ => pss_one (ps_ret (by exact (KwN.pe_callNS GCs hr rfl hcs FCs.kp bCs (fun σ => passAt tk σ) (by exact (pa_cons (pv 0) (pa_cons (pv 1) (pa_cons (pv 2) pa_nil)))) (by exact (pk_cons (pv 3) (pk_cons (pv 4) pk_nil)))))))
        (.cons (i := 5) rfl rfl ⟨rfl, by decide, Or.inl RP.g⟩ (fun a oe cls d pn hz hf => pss_one (ps_ret (pe_tup (pa_cons pe_str (by exact (pa_cons (pe_xf RP.xf RP.no hz hf (pv 5)) pa_nil)))))) (.cons (i := 5) rfl rfl ⟨rfl, by decide, Or.inl RB.g⟩ (fun a oe cls d pn hz hf => pss_one (ps_ret (pe_tup (pa_cons pe_str (by exact (pa_cons (pe_xf RB.xf RB.no hz hf (pv 5)) pa_nil)))))) .nil)))), ?_⟩
    refine ⟨_, rfl, _, rfl, _, rfl, _, rfl, _, rfl, rfl, rfl, r, t, h, s', m, ws, ls, x, tr, sr, rfl, hS, tl9, hld, hT, hU, hx, xl, tl, sl, zt, zs, zm, fun b hb => ?_, fun hn H' S => h3 hn _ S⟩
    rcases dueCk_cases hb with ⟨p, rfl⟩ | ⟨p, rfl⟩
    · refine fun H' d' S hd => ⟨true, RP.te, fun _ q ha => ?_, fun z => Bool.noConfusion z⟩
      refine ⟨_, rfl, rfl, rfl, d', _, _, rfl, upd_same, rfl, by show 2 ≤ sizeLine; decide, fun u hu => ?_⟩
      exact h1 p hb u _ (was_none (same_tr S (same_new hd)) hu) (same_tr S (same_tr (same_new hd) (same_new hu))) upd_same
    · refine fun H' d' S hd => ⟨false, hbp, fun z => Bool.noConfusion z, fun _ => ⟨true, RB.te, fun _ q ha => ?_, fun z => Bool.noConfusion z⟩⟩
      refine ⟨_, rfl, rfl, rfl, d', _, _, rfl, upd_same, rfl, by show 2 ≤ sizeLine; decide, fun u hu => ?_⟩
      exact h2 p hb u _ (was_none (same_tr S (same_new hd)) hu) (same_tr S (same_tr (same_new hd) (same_new hu))) upd_same
set_option maxHeartbeats 0 in
theorem ok_due {f fLF fMs : Addr} {fd fdLF fdMs : FuncData} (F : Fun K "_law_due" "_law_due" sDue f fd)
    (GLF : FnOk P w K mg base CX0 1 fLF fdLF ["_law_steps_here", "_law_heights"] spLFi) (FLF : Fun K "_law_fits" "_law_fits" sLFi fLF fdLF) (bLF : Binds K fdLF ["_law_steps_here", "_law_heights"] [])
    (GMs : FnOk P w K mg base CX0 1 fMs fdMs ["_law_rows", "_law_heights"] spMsr) (FMs : Fun K "_law_misread" "_law_misread" sMsr fMs fdMs) (bMs : Binds K fdMs ["_law_rows", "_law_heights"] []) (T : DuTxt mg fLF fMs) : FnOk P w K mg base CX0 2 f fd ["_law_steps_here", "_law_rows", "_law_fixed", "_law_heights", "_law_spare", "_law_many"] spDue := by
  refine F.ok scDue (fun vs H Q E h => ?_) (fun cdv A outer s H vs Q E hr h => ?_)
  · obtain ⟨u, a, b, h, ws, ls, x, tr, sr, m, rfl, _⟩ := h
    rfl
  · obtain ⟨u, a, b, h, ws, ls, x, tr, sr, m, rfl, hL, hld, hA, hB, hx, xl, p1, p2, l1, l2, k⟩ := h
    have hr1 : Room 1 _ := hr
    refine ⟨_, (pss_cons (ps_if (PW.pt (pw_or (pt_cmpR op_ne (pe_callB call_len_seq (by rfl) T.b_len PySem.boot_len (pa_cons (pv 3) pa_nil)) (pv 5) (nomark _)) (pw_or1 (pt_not (pt_val (pe_call GLF hr1 rfl T.fits FLF.kp bLF .nil pass0 (pa_cons (pv 0) (pa_cons (pv 3) pa_nil)))))))) (pss_one (ps_ret pe_bl)) pss_nil)
      (pss_one (ps_ret (pe_and (pe_cmpR op_eq (pe_call GMs hr1 rfl T.msr FMs.kp bMs .nil pass0 (pa_cons (pv 2) (pa_cons (pv 3) pa_nil))) pe_int (nomark _)) (pe_one (pe_cmpR op_le (pe_call GMs hr1 rfl T.msr FMs.kp bMs .nil pass0 (pa_cons (pv 1) (pa_cons (pv 3) pa_nil))) (pv 4) (nomark _))))))), ?_⟩
    refine ⟨_, rfl, h, _, rfl, .inl (SqL.of hx), _, rfl, rfl, _, rfl, ?_⟩
    unfold goodB at k
    rw [List.length_map]
    have el : (!decide (V.int ((x.length : Nat) : Int) = V.int ((places ws : Nat) : Int))) = decide (x.length ≠ places ws) := by
      by_cases c : x.length = places ws
      · rw [c]
        simp
      · have : ¬ (V.int ((x.length : Nat) : Int) = V.int ((places ws : Nat) : Int)) := fun z => c (by have := V.int.inj z; omega)
        rw [decide_eq_false this, decide_eq_true c]
        rfl
    rw [el]
    by_cases c : x.length = places ws
    · refine if_f (decide_eq_false fun z => z c) ?_
      rw [shape_is c] at k
      refine ⟨_, rfl, _, rfl, u, h, stepsOf ws ls, x, rfl, hL, hx, by rw [c]; exact steps_nodes hld, xl, fun H1 s1 => ?_⟩
      cases ef : fitsB (stepsOf ws ls) x with
      | false =>
        rw [ef] at k
        exact ⟨_, rfl, if_t rfl (k _ s1)⟩
      | true =>
        rw [ef] at k
        refine ⟨_, rfl, if_f rfl ?_⟩
        have i1 : ∀ r ∈ tr, 0 ≤ r.1 ∧ r.1 < x.length := fun r hr => by rw [c]; exact p1 r hr
        have i2 : ∀ r ∈ sr, 0 ≤ r.1 ∧ r.1 < x.length := fun r hr => by rw [c]; exact p2 r hr
        refine ⟨_, rfl, _, rfl, b, h, x, sr, rfl, s1 _ _ hx, hB.same s1, i2, l2, fun H2 s2 => ?_⟩
        have S2 := same_tr s1 s2
        refine ⟨rfl, _, rfl, ite2 (fun c2 => ?_) (fun c2 => ?_)⟩
        · have c2 : misN x sr = 0 := by
            have := V.int.inj (of_decide_eq_true c2)
            omega
          rw [decide_eq_true c2] at k
          exact ⟨_, rfl, _, rfl, a, h, x, tr, rfl, S2 _ _ hx, hA.same S2, i1, l1, fun H3 s3 => ⟨_, rfl, _, _, rfl, rfl, k _ (same_tr S2 s3)⟩⟩
        · have c2 : ¬ misN x sr = 0 := fun z => c2 (decide_eq_true (congrArg V.int (by omega)))
          rw [decide_eq_false c2] at k
          exact k _ S2
    · rw [shape_not c] at k
      exact if_t (decide_eq_true c) (k _ same_rfl)
set_option maxHeartbeats 0 in
theorem ok_chg {f fT : Addr} {fd fdT : FuncData} (F : Fun K "_law_changed" "_law_changed" sChg f fd) (GT : FnOk P w K mg base CX0 1 fT fdT ["_law_box_here", "_law_size"] spTake) (FT : Fun K "_law_take" "_law_take" sTake fT fdT) (bT : Binds K fdT ["_law_box_here", "_law_size"] []) (T : ChTxt mg fT) :
    FnOk P w K mg base CX0 2 f fd ["_law_box_here", "_law_truth_here"] spChg := by
  refine F.ok scChg (fun vs H Q E h => ?_) (fun cdv A outer s H vs Q E hr h => ?_)
  · obtain ⟨b, l, c, hs, rfl, _⟩ := h
    rfl
  · obtain ⟨b, l, c, hs, rfl, B, hc, l1, l50, k⟩ := h
    have hr1 : Room 1 _ := hr
    refine ⟨_, (pss_cons (ps_set (i := 2) scChg.nd rfl (Or.inl rfl) (pe_callTy call_list_of (by rfl) T.b_list (by decide +kernel) (pa_cons (pv 1) pa_nil)))
      (pss_cons (ps_for PassesOwn.never rfl (pi_range1 (by rfl) T.b_range (pa_cons (pe_call GT hr1 rfl T.take FT.kp bT .nil pass0 (pa_cons (pv 0) (pa_cons pe_int pa_nil))) pa_nil)) (pg_name (i := 3) scChg.nd rfl (Or.inl rfl)) (pss_cons (ps_set (i := 4) scChg.nd rfl (Or.inl rfl) (pe_call GT hr1 rfl T.take FT.kp bT .nil pass0 (pa_cons (pv 0) (pa_cons (pe_callB call_len_seq (by rfl) T.b_len PySem.boot_len (pa_cons (pv 2) pa_nil)) pa_nil))))
      (pss_one (ps_asg (pe_op op_sub (pe_op op_add (pe_ix ix_list (pv 2) (pv 4) (fun _ _ => rfl)) (pe_call GT hr1 rfl T.take FT.kp bT .nil pass0 (pa_cons (pv 0) (pa_cons pe_int pa_nil)))) pe_int) (pg_sub (pv 2) (pv 4) set_list)))))
      (pss_cons (ps_set (i := 5) scChg.nd rfl (Or.inl rfl) (pe_call GT hr1 rfl T.take FT.kp bT .nil pass0 (pa_cons (pv 0) (pa_cons pe_int pa_nil))))
      (C8.pss_cut (ps_if (pt_cmpR op_eq (pv 5) pe_int (nomark _)) (pss_one (ps_expr (pe_bm PySem.F.plainAttrs_list PySem.F.slot_list_append PySem.F.type_list_append mt_append (pv 2) (pa_cons pe_int pa_nil)))) pss_nil)
      (C8.pss_cut (ps_if (pt_cmpR op_eq (pv 5) pe_int (nomark _)) (pss_one (ps_expr (pe_bm0 PySem.F.plainAttrs_list PySem.F.slot_list_pop PySem.F.type_list_pop mt_pop (pv 2)))) pss_nil)
      (pss_one (ps_ret (pv 2)))))))), ?_⟩
    have szf : ∀ {z : Int}, 0 ≤ z → z ≤ 1000 → z.natAbs < 2 ^ 8000 := fun {z} a b => Nat.lt_of_le_of_lt (show z.natAbs ≤ 1000 by omega) (by decide +kernel)
    refine ⟨_, rfl, c, _, rfl, .inl (SqL.of hc), fun D hD => ?_⟩
    have nDb := Ne.symm (B.free hD).1
    have s1 := same_new (o := .lst (hs.map V.int)) hD
    have e1 : upd H D (.lst (hs.map V.int)) D = some (.lst (hs.map V.int)) := upd_same
    have B1 := B.same s1
    generalize upd H D (.lst (hs.map V.int)) = H1 at s1 e1 B1
    refine ⟨_, rfl, b, l, _, rfl, B1, by decide, by decide, fun r0 H2 r00 r01 B2 k2 => ?_⟩
    have e2 := (k2 D nDb).trans e1
    have S2 : SameB b H H2 := (SameB.of_same s1).trans (SameB.of k2)
    clear k2 e1 s1 B1
    refine ⟨_, rfl, by omega, by omega, ?_⟩
    refine for_it (walk_range (lo := 0) (n := r0.toNat)) (fun i σ' H' => ∃ (v3 v4 v5 : Option V) (x : List Int), σ' = [some (.ref b), some (.ref c), some (.ref D), v3, v4, v5] ∧ Box H' b l ∧ H' D = some (.lst (x.map V.int)) ∧ x.length = hs.length ∧ SameB b H H')
      ⟨none, none, none, hs, rfl, B2, e2, rfl, S2⟩ (fun _ _ _ _ _ => trivial) ?_ ?_
    · rintro i y σ' H3 H4 hi ⟨v3, v4, v5, x, rfl, B3, e3, xl, S3⟩ ⟨rfl, rfl⟩
      refine ⟨_, rfl, _, rfl, D, _, rfl, .inl (SqL.of e3), b, l, _, rfl, B3, by rw [List.length_map]; omega, szf (by omega) (by rw [List.length_map]; omega), fun r1 H5 r10 r11 B5 k5 => ?_⟩
      rw [List.length_map] at r11
      have e5 := (k5 D nDb).trans e3
      have S5 := S3.trans (SameB.of k5)
      clear k5 e3 S3 B3
      have ja : ixN (x.map V.int).length r1 = some r1.toNat := by
        unfold ixN
        rw [List.length_map, if_pos r10, if_pos (by omega)]
      obtain ⟨z, hz⟩ : ∃ z, x[r1.toNat]? = some z := ⟨_, List.getElem?_eq_getElem (by omega)⟩
      have az : atI (x.map V.int) r1 = some (.int z) := by
        rw [show r1 = ((r1.toNat : Nat) : Int) by omega]
        exact atI_nat (by rw [List.getElem?_map, hz]; rfl)
      refine ⟨_, rfl, _, rfl, D, _, _, _, rfl, rfl, SqL.of e5, az, _, rfl, b, l, _, rfl, B5, by decide, by decide, fun r2 H6 r20 r21 B6 k6 => ⟨_, _, rfl, rfl, _, _, rfl, rfl, ?_⟩⟩
      have e6 := (k6 D nDb).trans e5
      refine ⟨_, rfl, _, rfl, D, _, r1, r1.toNat, rfl, rfl, e6, ja, ?_⟩
      refine ⟨_, _, _, x.set r1.toNat (z + r2 - 3), rfl, B6.at (B.free hD), ?_, by rw [List.length_set]; exact xl, fun y v ny e => ?_⟩
      · rw [upd_same, List.map_set]
      · rw [upd_ne (ne_of_none e hD)]
        exact (S5.trans (SameB.of k6)) y v ny e
    rintro σ' H3 ⟨v3, v4, v5, x, rfl, B3, e3, xl, S3⟩
    refine ⟨_, rfl, b, l, _, rfl, B3, by decide, by decide, fun r2 H4 r20 r21 B4 k4 => ?_⟩
    have e4 := (k4 D nDb).trans e3
    have S4 := S3.trans (SameB.of k4)
    clear k4 e3 S3 B3
    refine ⟨fun σ' H' => ∃ x' : List Int, σ' = [some (.ref b), some (.ref c), some (.ref D), v3, v4, some (.int r2)] ∧ Box H' b l ∧ H' D = some (.lst (x'.map V.int)) ∧ x'.length ≤ 60 ∧ 1 ≤ x'.length ∧ SameB b H H', ?_, ?_⟩
    · refine ⟨_, rfl, rfl, _, rfl, ite2 (fun _ => ?_) (fun _ => ⟨x, rfl, B4, e4, by omega, by omega, S4⟩)⟩
      refine ⟨_, rfl, .inl ⟨rfl, _, SqL.of e4⟩, D, _, _, rfl, rfl, e4, small1000 (by rw [List.length_map]; omega), x ++ [0], rfl, B4.at (B.free hD), ?_, by rw [List.length_append]; show _ + 1 ≤ 60; omega, by rw [List.length_append]; show 1 ≤ _ + 1; omega, fun y v ny e => ?_⟩
      · rw [upd_same, List.map_append]
        rfl
      · rw [upd_ne (ne_of_none e hD)]
        exact S4 y v ny e
    rintro σ' H5 ⟨x', rfl, B5, e5, x60, x1, S5⟩
    refine ⟨fun σ' H' => ∃ x2 : List Int, σ' = [some (.ref b), some (.ref c), some (.ref D), v3, v4, some (.int r2)] ∧ Box H' b l ∧ H' D = some (.lst (x2.map V.int)) ∧ x2.length ≤ 60 ∧ SameB b H H', ?_, ?_⟩
    · refine ⟨_, rfl, rfl, _, rfl, ite2 (fun _ => ?_) (fun _ => ⟨x', rfl, B5, e5, x60, S5⟩)⟩
      refine ⟨_, rfl, .inl ⟨rfl, _, SqL.of e5⟩, D, _, _, rfl, rfl, e5, List.getElem?_eq_getElem (by rw [List.length_map]; omega), x'.dropLast, rfl, B5.at (B.free hD), ?_, by rw [List.length_dropLast]; omega, fun y v ny e => ?_⟩
      · rw [upd_same, List.map_dropLast]
      · rw [upd_ne (ne_of_none e hD)]
        exact S5 y v ny e
    rintro σ' H6 ⟨x2, rfl, B6, e6, x62, S6⟩
    exact ⟨_, rfl, k D x2 H6 hD e6 x62 B6 S6⟩
end
end Law

/-! What is refused; the law. -/
namespace Law
open PySem PySem.Spec PyProof.Rows L2 Sup ItSeq
abbrev sRfs : Stmt := top 55
abbrev sLaw : Stmt := top 56
def spLaw (K : PySem.W.Frag) : Sp := fun vs H Q _ => ∃ (a : Addr) (ns : List Int), vs = [.ref a] ∧ SqL K H a (ns.map V.int) ∧ ns.length ≤ 63 ∧ ∀ H', Q (.bl true) H'

theorem TsAt.app {CT : Addr} {H : Hp} {t1 t2 : List Addr} {r1 r2 : List TRow} (h1 : TsAt CT H t1 r1) (h2 : TsAt CT H t2 r2) : TsAt CT H (t1 ++ t2) (r1 ++ r2) := by
  refine ⟨by rw [List.length_append, List.length_append, h1.1, h2.1], fun i t q e1 e2 => ?_⟩
  by_cases c : i < t1.length
  · rw [List.getElem?_append_left c] at e1
    rw [List.getElem?_append_left (by rw [← h1.1]; exact c)] at e2
    exact h1.2 i t q e1 e2
  · rw [List.getElem?_append_right (by omega)] at e1
    rw [List.getElem?_append_right (by rw [← h1.1]; omega), ← h1.1] at e2
    exact h2.2 _ t q e1 e2
theorem TsAt.take {CT : Addr} {H : Hp} {ts : List Addr} {rs : List TRow} (h : TsAt CT H ts rs) (n : Nat) : TsAt CT H (ts.take n) (rs.take n) := by
  refine ⟨by rw [List.length_take, List.length_take, h.1], fun i t q e1 e2 => ?_⟩
  have c : i < n := by
    have := (List.getElem?_eq_some_iff.mp e1).1
    rw [List.length_take] at this
    omega
  rw [List.getElem?_take_of_lt c] at e1 e2
  exact h.2 i t q e1 e2
theorem TsAt.drop {CT : Addr} {H : Hp} {ts : List Addr} {rs : List TRow} (h : TsAt CT H ts rs) (n : Nat) : TsAt CT H (ts.drop n) (rs.drop n) := by
  refine ⟨by rw [List.length_drop, List.length_drop, h.1], fun i t q e1 e2 => ?_⟩
  rw [List.getElem?_drop] at e1 e2
  exact h.2 _ t q e1 e2
theorem TsAt.one {CT : Addr} {H : Hp} {x : Addr} {p h : Int} {r : Bool} (t : Tri CT H x p h r) : TsAt CT H [x] [(p, h, r)] := by
  refine ⟨rfl, fun i t' q e1 e2 => ?_⟩
  cases i with
  | zero =>
    cases e1
    cases e2
    exact t
  | succ i => cases e1
def outB (ws : List Wal) (p : Int) : Prop := ¬ (0 ≤ p ∧ p < ((places ws : Nat) : Int))
theorem badP_in {ws : List Wal} {rows : List TRow} (h : inPl ws rows) : badP ws rows = none := by
  unfold badP
  rw [List.find?_eq_none.mpr fun q hq => by rw [decide_eq_true (h q hq)]; decide]
  rfl
theorem badP_ins {ws : List Wal} {rows : List TRow} (h : inPl ws rows) {p x : Int} {r : Bool} (hp : outB ws p) (i : Nat) (more : List TRow) : badP ws (rows.take i ++ [(p, x, r)] ++ more) = some p := by
  unfold badP
  have h0 : (rows.take i).find? (fun r : TRow => !(decide (0 ≤ r.1 ∧ r.1 < ((places ws : Nat) : Int)))) = none := List.find?_eq_none.mpr fun q hq => by rw [decide_eq_true (h q (List.mem_of_mem_take hq))]; decide
  rw [List.append_assoc, List.find?_append, h0, Option.none_or]
  show ((p, x, r) :: _ |>.find? _).map _ = _
  rw [List.find?_cons]
  have : (!(decide (0 ≤ p ∧ p < ((places ws : Nat) : Int)))) = true := by
    rw [decide_eq_false hp]
    rfl
  show Option.map _ (match (!(decide (0 ≤ p ∧ p < ((places ws : Nat) : Int)))) with | true => some (p, x, r) | false => _) = _
  rw [this]
  rfl
theorem dueCk_num {ws : List Wal} {tr sr : List TRow} {m : Int} (h1 : badP ws tr = none) (h2 : badP ws sr = none) (h : m < 0) : dueCk ws tr sr m = some (.num m) := by
  unfold dueCk
  rw [h1]
  show (match badP ws sr with | some p => some (Due.place p) | none => if m < 0 then some (Due.num m) else none) = _
  rw [h2]
  exact if_pos h
theorem dueCk_ok {ws : List Wal} {tr sr : List TRow} {m : Int} (h1 : badP ws tr = none) (h2 : badP ws sr = none) (h : 0 ≤ m) : dueCk ws tr sr m = none := by
  unfold dueCk
  rw [h1]
  show (match badP ws sr with | some p => some (Due.place p) | none => if m < 0 then some (Due.num m) else none) = _
  rw [h2]
  exact if_neg (by omega)
theorem str_okD {y : Str} (hy : y.cps.toList.all (fun c => decide (c < 1114112)) = true) : PyData.canLay0 (.str y) = true := ok_str fun c hc => of_decide_eq_true (List.all_eq_true.mp hy c hc)
theorem shp_si {y : Str} (hy : y.cps.toList.all (fun c => decide (c < 1114112)) = true) (z : Int) : SeqAt.shaped (.tuple [.str y, .int z]) = true := shaped_pair (str_okD hy) (int_ok z) rfl rfl
theorem ne_si {K : PySem.W.Frag} {H : Hp} {a b : Addr} {y : Str} {z : Int} {Q : VK} (hy : y.cps.toList.all (fun c => decide (c < 1114112)) = true) (h1 : H a = some (.tup [.str y, .int z])) (h2 : H b = some (.tup [.str y, .int z])) (q : Q (.bl false) H) : rNeD K (.ref a) (.ref b) H Q :=
  ⟨_, _, .tup (SqT.of h1) (.cons (.str _) (.cons (.int _) .nil)), .tup (SqT.of h2) (.cons (.str _) (.cons (.int _) .nil)), shp_si hy z, shp_si hy z, by rw [eqv_rfl (shp_si hy z)]; exact q⟩
theorem eq_si {K : PySem.W.Frag} {H : Hp} {a b : Addr} {y : Str} {z : Int} {Q : VK} (hy : y.cps.toList.all (fun c => decide (c < 1114112)) = true) (h1 : H a = some (.tup [.str y, .int z])) (h2 : H b = some (.tup [.str y, .int z])) (q : Q (.bl true) H) : rEqD K (.ref a) (.ref b) H Q :=
  ⟨_, _, .tup (SqT.of h1) (.cons (.str _) (.cons (.int _) .nil)), .tup (SqT.of h2) (.cons (.str _) (.cons (.int _) .nil)), shp_si hy z, shp_si hy z, by rw [eqv_rfl (shp_si hy z)]; exact q⟩
def spRfs (K : PySem.W.Frag) (CS CT : Addr) : Sp := fun vs H Q _ => ∃ (r a b t : Addr) (odd at_ below : Int) (ws : List Wal) (ls : List Lnk) (x : List Int) (rows fixed : List TRow), vs = [.ref r, .ref a, .ref b, .ref t, .int odd, .int at_, .int below] ∧ SiteAt K CS ws ls H r ∧ (toldOf ws ls).length ≤ 900 ∧ linksDue (places ws : Nat) ls = none ∧
  RwAt H a rows ∧ RwAt H b fixed ∧ inPl ws rows ∧ inPl ws fixed ∧ H t = some (.lst (x.map V.int)) ∧ x.length ≤ 100 ∧ places ws ≤ 40 ∧ rows.length ≤ 100 ∧ fixed.length ≤ 100 ∧ outB ws odd ∧ -10 ≤ odd ∧ odd ≤ 49 ∧ 0 ≤ at_ ∧ at_ ≤ 100 ∧ -10 ≤ below ∧ below < 0 ∧ ∀ H', Same H H' → Q (.bl true) H'
structure RfTxt (mg : Str → Option Value) (CT fTl fOu : Addr) : Prop where
  tri : mg "Trial" = some (.ref CT)
  trials : mg "_law_trials" = some (.ref fTl)
  out : mg "_law_outcome" = some (.ref fOu)
structure LwTxt (mg : Str → Option Value) (CS fB fT fBg fTr fSt fTl fCg fOu fSa fDu fRf fCs : Addr) : Prop where
  box : mg "_law_box" = some (.ref fB)
  take : mg "_law_take" = some (.ref fT)
  big : mg "_law_big" = some (.ref fBg)
  tries : mg "_law_tries" = some (.ref fTr)
  steps : mg "_law_steps" = some (.ref fSt)
  trials : mg "_law_trials" = some (.ref fTl)
  chg : mg "_law_changed" = some (.ref fCg)
  out : mg "_law_outcome" = some (.ref fOu)
  says : mg "_law_says" = some (.ref fSa)
  due : mg "_law_due" = some (.ref fDu)
  rfs : mg "_law_refusals" = some (.ref fRf)
  cks : mg "check_shape" = some (.ref fCs)
  site : mg "Site" = some (.ref CS)
  b_len : mg "len" = none
  b_range : mg "range" = none
  b_list : mg "list" = none
section
variable {P : Program} {w : World} {K : PySem.W.Frag} {mg : Str → Option Value} {base : Heap} {C : Errs} {CS CT : Addr}
theorem scRfs : FnScope ["_law_site", "_law_rows", "_law_fixed", "_law_truth_here", "_law_odd", "_law_at", "_law_below", "_law_trials_here", "_law_pins"] ["_law_site", "_law_rows", "_law_fixed", "_law_truth_here", "_law_odd", "_law_at", "_law_below"] (defScope sRfs) := ⟨rfl, rfl, rfl, by decide +kernel, rfl, by decide +kernel, by decide +kernel⟩
set_option maxHeartbeats 0 in
theorem ok_rfs {f fTl fOu fTi : Addr} {fd fdTl fdOu : FuncData} (F : Fun K "_law_refusals" "_law_refusals" sRfs f fd)
    (GTl : FnOk P w K mg base CX0 3 fTl fdTl ["_law_rows"] (spTrl CT)) (FTl : Fun K "_law_trials" "_law_trials" sTrl fTl fdTl) (bTl : Binds K fdTl ["_law_rows"] [])
    (GOu : FnOk P w K mg base CX0 7 fOu fdOu ["_law_site", "_law_trials_here", "_law_heights", "_law_pins", "_law_spare"] (spOut K CS CT)) (FOu : Fun K "_law_outcome" "_law_outcome" sOut fOu fdOu) (bOu : Binds K fdOu ["_law_site", "_law_trials_here", "_law_heights", "_law_pins", "_law_spare"] [])
    (MKT : Mk K CT fTi) (GTi : FnR P w K mg base CX0 1 fTi (spTini CT)) (T : RfTxt mg CT fTl fOu) : FnOk P w K mg base CX0 8 f fd ["_law_site", "_law_rows", "_law_fixed", "_law_truth_here", "_law_odd", "_law_at", "_law_below"] (spRfs K CS CT) := by
  refine F.ok scRfs (fun vs H Q E h => ?_) (fun cdv A outer s H vs Q E hr h => ?_)
  · obtain ⟨r, a, b, t, odd, at_, below, ws, ls, x, rows, fixed, rfl, _⟩ := h
    rfl
  · obtain ⟨r, a, b, t, odd, at_, below, ws, ls, x, rows, fixed, rfl, hS, tl9, hld, hA, hB, ip, iq, ht, xl, pw, rl, fl, ho, o1, o2, a0, a1, b1, b0, k⟩ := h
    have hr7 : Room 7 _ := hr
    have hr3 : Room 3 _ := hr.mono (by decide)
    have hr2 : Room 2 _ := hr.mono (by decide)
    refine ⟨_, (pss_cons (ps_set (i := 7) scRfs.nd rfl (Or.inl rfl) (pe_call GTl hr3 rfl T.trials FTl.kp bTl .nil pass0 (pa_cons (pv 1) pa_nil)))
      (pss_cons (ps_expr (pe_bm PySem.F.plainAttrs_list PySem.F.slot_list_insert PySem.F.type_list_insert mt_insert (pv 7) (pa_cons (pv 5) (pa_cons (Own.pe_makeS (E := fun _ => E0) MKT GTi hr2 rfl T.tri (passS pass0) (pa_cons (pv 4) (pa_cons pe_int (pa_cons pe_bl pa_nil)))) pa_nil))))
      (pss_cons (ps_set (i := 8) scRfs.nd rfl (Or.inl rfl) (pe_op op_cat (pe_call GTl hr3 rfl T.trials FTl.kp bTl .nil pass0 (pa_cons (pv 2) pa_nil)) (pe_lst (pa_cons (Own.pe_makeS (E := fun _ => E0) MKT GTi hr2 rfl T.tri (passS pass0) (pa_cons (pe_op op_sub (pv 4) pe_int) (pa_cons pe_int (pa_cons pe_bl pa_nil)))) pa_nil))))
      (pss_cons (ps_if (pt_cmpR (op_neD hr.units) (pe_call GOu hr7 rfl T.out FOu.kp bOu .nil pass0 (pa_cons (pv 0) (pa_cons (pv 7) (pa_cons (pv 3) (pa_cons (pv 8) (pa_cons (pv 6) pa_nil)))))) (pe_tup (pa_cons pe_str (pa_cons (pv 4) pa_nil))) (nomark _)) (pss_one (ps_ret pe_bl)) pss_nil)
      (pss_cons (ps_if (pt_cmpR (op_neD hr.units) (pe_call GOu hr7 rfl T.out FOu.kp bOu .nil pass0 (pa_cons (pv 0) (pa_cons (pe_call GTl hr3 rfl T.trials FTl.kp bTl .nil pass0 (pa_cons (pv 1) pa_nil)) (pa_cons (pv 3) (pa_cons (pv 8) (pa_cons (pv 6) pa_nil)))))) (pe_tup (pa_cons pe_str (pa_cons (pe_op op_sub (pv 4) pe_int) pa_nil))) (nomark _)) (pss_one (ps_ret pe_bl)) pss_nil)
      (pss_one (ps_ret (pe_cmpR (op_eqD hr.units) (pe_call GOu hr7 rfl T.out FOu.kp bOu .nil pass0 (pa_cons (pv 0) (pa_cons (pe_call GTl hr3 rfl T.trials FTl.kp bTl .nil pass0 (pa_cons (pv 1) pa_nil)) (pa_cons (pv 3) (pa_cons (pe_call GTl hr3 rfl T.trials FTl.kp bTl .nil pass0 (pa_cons (pv 2) pa_nil)) (pa_cons (pv 6) pa_nil)))))) (pe_tup (pa_cons pe_str (pa_cons (pv 6) pa_nil))) (nomark _))))))))), ?_⟩
    have szn : ∀ z : Int, -1000 ≤ z → z ≤ 1000 → Sz z := fun z a b => Nat.lt_of_le_of_lt (show z.natAbs ≤ 1000 by omega) (by decide +kernel)
    have zr : ∀ {rs : List TRow}, inPl ws rs → ∀ q ∈ rs, Sz q.1 := fun h q hq => by
      obtain ⟨q0, q1⟩ := h q hq
      exact szn _ (by omega) (by omega)
    refine ⟨_, rfl, a, rows, rfl, hA, by omega, fun D H1 nD T1 S1 => ?_⟩
    obtain ⟨ts, e1, t2, t3⟩ := id T1
    refine ⟨_, rfl, .inl ⟨rfl, _, SqL.of e1⟩, _, rfl, _, rfl, mk_tri fun y H2 ny S2 tY => ?_⟩
    have e2 := S2 _ _ e1
    have A2 : TsAt CT H2 ts rows := ⟨t2, fun i u q z1 z2 => (t3 i u q z1 z2).same S2⟩
    refine ⟨D, _, at_, _, rfl, rfl, e2, small1000 (by rw [List.length_map]; omega), a0, by omega, ?_⟩
    have em : (ts.map V.ref).take at_.toNat ++ [V.ref y] ++ (ts.map V.ref).drop at_.toNat = (ts.take at_.toNat ++ [y] ++ ts.drop at_.toNat).map V.ref := by
      rw [List.map_append, List.map_append, List.map_take, List.map_drop]
      rfl
    rw [em]
    have A3' := (A2.take at_.toNat).app (TsAt.one tY) |>.app (A2.drop at_.toNat)
    have bI := fun more => badP_ins (ws := ws) ip ho (x := 0) (r := true) at_.toNat more
    have bD := bI (rows.drop at_.toNat)
    obtain ⟨rI, hrI⟩ : ∃ rI, rows.take at_.toNat ++ [(odd, (0 : Int), true)] ++ rows.drop at_.toNat = rI := ⟨_, rfl⟩
    rw [hrI] at A3' bD
    have lI : rI.length ≤ 101 := by
      rw [← hrI, List.length_append, List.length_append, List.length_take, List.length_drop]
      show min _ _ + 1 + _ ≤ 101
      omega
    have zI : ∀ q ∈ rI, Sz q.1 := fun q hq => by
      rw [← hrI] at hq
      rcases List.mem_append.mp hq with hq | hq
      · rcases List.mem_append.mp hq with hq | hq
        · exact zr ip q (List.mem_of_mem_take hq)
        · rw [List.mem_singleton.mp hq]
          exact szn _ (by show -1000 ≤ odd; omega) (by show odd ≤ 1000; omega)
      · exact zr ip q (List.mem_of_mem_drop hq)
    generalize ts.take at_.toNat ++ [y] ++ ts.drop at_.toNat = tI at A3'
    have e3 : upd H2 D (.lst (tI.map V.ref)) D = some (.lst (tI.map V.ref)) := upd_same
    have S3 : Same H (upd H2 D (.lst (tI.map V.ref))) := fun c o e => by
      rw [upd_ne (ne_of_none e nD)]
      exact S2 _ _ (S1 _ _ e)
    have A3 : TsAt CT (upd H2 D (.lst (tI.map V.ref))) tI rI := ⟨A3'.1, fun i u q z1 z2 => by
      obtain ⟨dx, fs, g1, g2⟩ := A3'.2 i u q z1 z2
      exact ⟨dx, fs, by rw [upd_ne (fun z => by rw [z, e2] at g1; cases g1)]; exact g1, g2⟩⟩
    generalize upd H2 D (.lst (tI.map V.ref)) = H3 at e3 S3 A3
    clear e2 e1 t3 T1 S1 S2 A2 A3' tY ny em
    refine ⟨_, rfl, b, fixed, rfl, hB.same S3, by omega, fun E4 H4 nE T4 S4 => ?_⟩
    obtain ⟨us, u1, u2, u3⟩ := id T4
    refine ⟨_, rfl, _, _, rfl, rfl, mk_tri fun y H5 ny S5 tY => ⟨by show 1 ≤ sizeLine; decide, fun z hz => ?_⟩⟩
    have s6 := same_new (o := .lst [V.ref y]) hz
    have z6 : upd H5 z (.lst [V.ref y]) z = some (.lst [V.ref y]) := upd_same
    generalize upd H5 z (.lst [V.ref y]) = H6 at s6 z6
    have S36 := same_tr S4 (same_tr S5 s6)
    have U6 : TsAt CT H6 us fixed := ⟨u2, fun i u q z1 z2 => ((u3 i u q z1 z2).same S5).same s6⟩
    have Y6 : TsAt CT H6 [y] [(odd - 50, 0, true)] := TsAt.one (tY.same s6)
    have u6 := s6 _ _ (S5 _ _ u1)
    refine ⟨E4, z, _, _, rfl, rfl, u6, z6, Nat.le_of_lt (small1000 (by rw [List.length_map]; show us.length + 1 ≤ 1000; omega)), fun pn hpn => ?_⟩
    have s7 := same_new (o := .lst (us.map V.ref ++ [V.ref y])) hpn
    have P7 : upd H6 pn (.lst (us.map V.ref ++ [V.ref y])) pn = some (.lst ((us ++ [y]).map V.ref)) := by
      rw [upd_same, List.map_append]
      rfl
    generalize upd H6 pn (.lst (us.map V.ref ++ [V.ref y])) = H7 at s7 P7
    have S37 := same_tr S36 s7
    have S7 := same_tr S3 S37
    have U7 : TSq K CT H7 pn (fixed ++ [(odd - 50, 0, true)]) := ⟨us ++ [y], .inl (SqL.of P7), (U6.same s7).app (Y6.same s7)⟩
    have D7 : TSq K CT H7 D rI := ⟨tI, .inl (SqL.of (S37 _ _ e3)), A3.same S37⟩
    have ho' : outB ws (odd - 50) := fun z => by omega
    have bP : badP ws (fixed ++ [(odd - 50, 0, true)]) = some (odd - 50) := by
      have := badP_ins (ws := ws) iq ho' (x := 0) (r := true) fixed.length []
      rw [List.take_length, List.append_nil] at this
      exact this
    have zP : ∀ q ∈ fixed ++ [(odd - 50, (0 : Int), true)], Sz q.1 := fun q hq => by
      rcases List.mem_append.mp hq with hq | hq
      · exact zr iq q hq
      · rw [List.mem_singleton.mp hq]
        exact szn _ (by show -1000 ≤ odd - 50; omega) (by show odd - 50 ≤ 1000; omega)
    have lP : (fixed ++ [(odd - 50, (0 : Int), true)]).length ≤ 900 := by rw [List.length_append]; show fixed.length + 1 ≤ 900; omega
    clear s6 z6 S36 U6 Y6 u6 s7 P7 hpn hz ny tY S5 u1 u2 u3 T4 S4 nE
    generalize fixed ++ [(odd - 50, (0 : Int), true)] = rP at U7 bP zP lP
    have hS7 := hS.same S7
    have bA := badP_in ip
    have bB := badP_in iq
    refine ⟨_, rfl, _, rfl, _, rfl, _, rfl, _, rfl, r, D, t, pn, below, ws, ls, x, rI, rP, rfl, hS7, tl9, hld, D7, U7, S7 _ _ ht, xl, by omega, lP, zI, zP, szn _ (by omega) (by omega), fun p hp u8 H8 n8 S8 t8 => ?_, fun p hp => ?_, fun hp => ?_⟩
    · have ep : p = odd := by
        unfold dueCk at hp
        rw [bD] at hp
        cases hp
        rfl
      subst ep
      refine ⟨_, rfl, by show 2 ≤ sizeLine; decide, fun v9 h9 => ?_⟩
      have s9 := same_new (o := .tup [.str "NoPlace", .int p]) h9
      have V9 : upd H8 v9 (.tup [.str "NoPlace", .int p]) v9 = some (.tup [.str "NoPlace", .int p]) := upd_same
      generalize upd H8 v9 (.tup [.str "NoPlace", .int p]) = H9 at s9 V9
      refine ne_si (by decide +kernel) (s9 _ _ t8) V9 ⟨_, rfl, if_f rfl ?_⟩
      have S79 := same_tr S8 s9
      have S9 := same_tr S7 S79
      have U9 := U7.same S79
      clear t8 n8 S8 h9 s9 V9 S79
      -- the second refusal
      refine ⟨_, rfl, _, rfl, a, rows, rfl, hA.same S9, by omega, fun D2 H10 nD2 T10 S10 => ?_⟩
      have S10' := same_tr S9 S10
      refine ⟨_, rfl, _, rfl, _, rfl, r, D2, t, pn, below, ws, ls, x, rows, rP, rfl, hS.same S10', tl9, hld, T10.sq, U9.same S10, S10' _ _ ht, xl, by omega, lP, zr ip, zP, szn _ (by omega) (by omega), fun p2 hp2 u11 H11 n11 S11 t11 => ?_, fun p2 hp2 => ?_, fun hp2 => ?_⟩
      · have ep : p2 = p - 50 := by
          unfold dueCk at hp2
          rw [bA] at hp2
          have hp2 : (match badP ws rP with | some p => some (Due.place p) | none => if below < 0 then some (Due.num below) else none) = some (Due.place p2) := hp2
          rw [bP] at hp2
          cases hp2
          rfl
        subst ep
        refine ⟨_, rfl, _, _, rfl, rfl, by show 2 ≤ sizeLine; decide, fun v12 h12 => ?_⟩
        have s12 := same_new (o := .tup [.str "NoPlace", .int (p - 50)]) h12
        have V12 : upd H11 v12 (.tup [.str "NoPlace", .int (p - 50)]) v12 = some (.tup [.str "NoPlace", .int (p - 50)]) := upd_same
        generalize upd H11 v12 (.tup [.str "NoPlace", .int (p - 50)]) = H12 at s12 V12
        refine ne_si (by decide +kernel) (s12 _ _ t11) V12 ⟨_, rfl, if_f rfl ?_⟩
        have S12 := same_tr S10' (same_tr S11 s12)
        clear t11 n11 S11 h12 s12 V12 T10 nD2 S10 S10'
        -- the third
        refine ⟨_, rfl, _, rfl, a, rows, rfl, hA.same S12, by omega, fun D3 H13 nD3 T13 S13 => ?_⟩
        have S13' := same_tr S12 S13
        refine ⟨_, rfl, _, rfl, b, fixed, rfl, hB.same S13', by omega, fun D4 H14 nD4 T14 S14 => ?_⟩
        have S14' := same_tr S13' S14
        refine ⟨_, rfl, r, D3, t, D4, below, ws, ls, x, rows, fixed, rfl, hS.same S14', tl9, hld, (T13.same S14).sq, T14.sq, S14' _ _ ht, xl, by omega, by omega, zr ip, zr iq, szn _ (by omega) (by omega), fun p3 hp3 => ?_, fun p3 hp3 u15 H15 n15 S15 t15 => ?_, fun hp3 => ?_⟩
        · rw [dueCk_num bA bB b0] at hp3
          cases hp3
        · rw [dueCk_num bA bB b0] at hp3
          cases hp3
          refine ⟨_, rfl, by show 2 ≤ sizeLine; decide, fun v16 h16 => ?_⟩
          have s16 := same_new (o := .tup [.str "BadNumber", .int below]) h16
          exact eq_si (by decide +kernel) (s16 _ _ t15) upd_same (k _ (same_tr S14' (same_tr S15 s16)))
        · rw [dueCk_num bA bB b0] at hp3
          cases hp3
      · unfold dueCk at hp2
        rw [bA] at hp2
        have hp2 : (match badP ws rP with | some p => some (Due.place p) | none => if below < 0 then some (Due.num below) else none) = some (Due.num p2) := hp2
        rw [bP] at hp2
        cases hp2
      · unfold dueCk at hp2
        rw [bA] at hp2
        have hp2 : (match badP ws rP with | some p => some (Due.place p) | none => if below < 0 then some (Due.num below) else none) = none := hp2
        rw [bP] at hp2
        cases hp2
    · unfold dueCk at hp
      rw [bD] at hp
      cases hp
    · unfold dueCk at hp
      rw [bD] at hp
      cases hp
theorem scLaw : FnScope ["_law_script", "_law_box_here", "_law_shuts", "_law_links_here", "_law_truth_here", "_law_rows", "_law_fixed", "_law_site", "_law_steps_here", "_law_many", "_law_turn", "_law_heights", "_law_spare", "_law_passed", "_law_told", "_law_plain", "_law_odd", "_law_at"] ["_law_script"] (defScope sLaw) := ⟨rfl, rfl, rfl, by decide +kernel, rfl, by decide +kernel, by decide +kernel⟩
set_option maxHeartbeats 0 in
theorem ok_law {f fB fT fBg fTr fSt fTl fCg fOu fSa fDu fRf fSi fCs aD : Addr} {fd fdB fdT fdBg fdTr fdSt fdTl fdCg fdOu fdSa fdDu fdRf fdCs : FuncData} {dsC : List Value} (F : Fun K "law" "law" sLaw f fd) (T : LwTxt mg CS fB fT fBg fTr fSt fTl fCg fOu fSa fDu fRf fCs)
    (GB : FnOk P w K mg base CX0 1 fB fdB ["_law_script"] (spBox K)) (FB : Fun K "_law_box" "_law_box" sBox fB fdB) (bB : Binds K fdB ["_law_script"] [])
    (GT : FnOk P w K mg base CX0 1 fT fdT ["_law_box_here", "_law_size"] spTake) (FT : Fun K "_law_take" "_law_take" sTake fT fdT) (bT : Binds K fdT ["_law_box_here", "_law_size"] [])
    (GBg : FnOk P w K mg base CX0 4 fBg fdBg ["_law_box_here", "_law_many", "_law_count"] (spBig K)) (FBg : Fun K "_law_big" "_law_big" sBig fBg fdBg) (bBg : Binds K fdBg ["_law_box_here", "_law_many", "_law_count"] [])
    (GTr : FnOk P w K mg base CX0 2 fTr fdTr ["_law_box_here", "_law_truth_here", "_law_count", "_law_tall"] spTrs) (FTr : Fun K "_law_tries" "_law_tries" sTrs fTr fdTr) (bTr : Binds K fdTr ["_law_box_here", "_law_truth_here", "_law_count", "_law_tall"] [])
    (GSt : FnOk P w K mg base CX0 1 fSt fdSt ["_law_shuts", "_law_links_here"] (spStp K)) (FSt : Fun K "_law_steps" "_law_steps" sStp fSt fdSt) (bSt : Binds K fdSt ["_law_shuts", "_law_links_here"] [])
    (GTl : FnOk P w K mg base CX0 3 fTl fdTl ["_law_rows"] (spTrl CT)) (FTl : Fun K "_law_trials" "_law_trials" sTrl fTl fdTl) (bTl : Binds K fdTl ["_law_rows"] [])
    (GCg : FnOk P w K mg base CX0 2 fCg fdCg ["_law_box_here", "_law_truth_here"] spChg) (FCg : Fun K "_law_changed" "_law_changed" sChg fCg fdCg) (bCg : Binds K fdCg ["_law_box_here", "_law_truth_here"] [])
    (GOu : FnOk P w K mg base CX0 7 fOu fdOu ["_law_site", "_law_trials_here", "_law_heights", "_law_pins", "_law_spare"] (spOut K CS CT)) (FOu : Fun K "_law_outcome" "_law_outcome" sOut fOu fdOu) (bOu : Binds K fdOu ["_law_site", "_law_trials_here", "_law_heights", "_law_pins", "_law_spare"] [])
    (GSa : FnOk P w K mg base CX0 1 fSa fdSa ["_law_told", "_law_due_here"] spSay) (FSa : Fun K "_law_says" "_law_says" sSay fSa fdSa) (bSa : Binds K fdSa ["_law_told", "_law_due_here"] [])
    (GDu : FnOk P w K mg base CX0 2 fDu fdDu ["_law_steps_here", "_law_rows", "_law_fixed", "_law_heights", "_law_spare", "_law_many"] spDue) (FDu : Fun K "_law_due" "_law_due" sDue fDu fdDu) (bDu : Binds K fdDu ["_law_steps_here", "_law_rows", "_law_fixed", "_law_heights", "_law_spare", "_law_many"] [])
    (GRf : FnOk P w K mg base CX0 8 fRf fdRf ["_law_site", "_law_rows", "_law_fixed", "_law_truth_here", "_law_odd", "_law_at", "_law_below"] (spRfs K CS CT)) (FRf : Fun K "_law_refusals" "_law_refusals" sRfs fRf fdRf) (bRf : Binds K fdRf ["_law_site", "_law_rows", "_law_fixed", "_law_truth_here", "_law_odd", "_law_at", "_law_below"] [])
    (GCs : FnOk P w K mg base (L2.CX P w) 6 fCs fdCs ["site", "trials", "heights", "misreads", "sure"] (spCks K C CS CT)) (FCs : FunD K "check_shape" "check_shape" (defArgs sCks) (defBody sCks) (defScope sCks) [] [("misreads", .int 0), ("sure", .ref aD)] fCs fdCs)
    (bC0 : Binds K fdCs ["site", "trials", "heights", "misreads", "sure"] dsC) (vC0 : Vals [.int 0, .ref aD] dsC) (hE : ∀ H : Hp, SqT K H aD [])
    (GSi : FnR P w K mg base (L2.CX P w) 7 fSi (spSini2 K C CS)) (MK : Mk K CS fSi) : FnOk P w K mg base CX0 9 f fd ["_law_script"] (spLaw K) := by
  refine F.ok scLaw (fun vs H Q E h => ?_) (fun cdv A outer s H vs Q E hr h => ?_)
  · obtain ⟨a, ns, rfl, _⟩ := h
    rfl
  · obtain ⟨a, ns, rfl, h1, h2, h3⟩ := h
    have hr8 : Room 8 _ := hr
    have hr7 : Room 7 _ := hr.mono (by decide)
    have hr6 : Room 6 _ := hr.mono (by decide)
    have hr4 : Room 4 _ := hr.mono (by decide)
    have hr3 : Room 3 _ := hr.mono (by decide)
    have hr2 : Room 2 _ := hr.mono (by decide)
    have hr1 : Room 1 _ := hr.mono (by decide)
    refine ⟨_, (pss_cons (ps_set (i := 1) scLaw.nd rfl (Or.inl rfl) (pe_call GB hr1 rfl T.box FB.kp bB .nil pass0 (pa_cons (pv 0) pa_nil)))
      (pss_cons (ps_asg (pe_call GBg hr4 rfl T.big FBg.kp bBg .nil pass0 (pa_cons (pv 1) (pa_cons pe_int (pa_cons (pe_call GT hr1 rfl T.take FT.kp bT .nil pass0 (pa_cons (pv 1) (pa_cons pe_int pa_nil))) pa_nil)))) (pg_tup (by rfl) (pgs_cons (pg_name (i := 2) scLaw.nd rfl (Or.inl rfl)) (pgs_cons (pg_name (i := 3) scLaw.nd rfl (Or.inl rfl)) (pgs_cons (pg_name (i := 4) scLaw.nd rfl (Or.inl rfl)) (pgs_cons (pg_name (i := 5) scLaw.nd rfl (Or.inl rfl)) pgs_nil))))))
      (pss_cons (ps_set (i := 6) scLaw.nd rfl (Or.inl rfl) (pe_call GTr hr2 rfl T.tries FTr.kp bTr .nil pass0 (pa_cons (pv 1) (pa_cons (pv 4) (pa_cons (pe_call GT hr1 rfl T.take FT.kp bT .nil pass0 (pa_cons (pv 1) (pa_cons pe_int pa_nil))) (pa_cons pe_int pa_nil))))))
      (pss_cons (ps_set (i := 7) scLaw.nd rfl (Or.inl rfl) (Own.pe_makeS (E := fun _ => E0) MK GSi hr8 rfl T.site (passS passL) (pa_cons (pv 2) (pa_cons (pv 3) pa_nil))))
      (pss_cons (ps_set (i := 8) scLaw.nd rfl (Or.inl rfl) (pe_call GSt hr1 rfl T.steps FSt.kp bSt .nil pass0 (pa_cons (pv 2) (pa_cons (pv 3) pa_nil))))
      (pss_cons (ps_set (i := 9) scLaw.nd rfl (Or.inl rfl) (pe_callB call_len_seq (by rfl) T.b_len PySem.boot_len (pa_cons (pv 4) pa_nil)))
      (pss_cons (ps_for PassesOwn.never rfl (pi_range1 (by rfl) T.b_range (pa_cons pe_int pa_nil)) (pg_name (i := 10) scLaw.nd rfl (Or.inl rfl)) (pss_cons (ps_set (i := 11) scLaw.nd rfl (Or.inl rfl) (pe_call GCg hr2 rfl T.chg FCg.kp bCg .nil pass0 (pa_cons (pv 1) (pa_cons (pv 4) pa_nil))))
      (pss_cons (ps_set (i := 12) scLaw.nd rfl (Or.inl rfl) (pe_call GT hr1 rfl T.take FT.kp bT .nil pass0 (pa_cons (pv 1) (pa_cons pe_int pa_nil))))
      (pss_cons (ps_set (i := 13) scLaw.nd rfl (Or.inl rfl) (pe_callTy call_list_of (by rfl) T.b_list (by decide +kernel) (pa_cons (pv 11) pa_nil)))
      (pss_cons (ps_set (i := 14) scLaw.nd rfl (Or.inl rfl) (pe_call GOu hr7 rfl T.out FOu.kp bOu .nil pass0 (pa_cons (pv 7) (pa_cons (pe_call GTl hr3 rfl T.trials FTl.kp bTl .nil pass0 (pa_cons (pv 5) pa_nil)) (pa_cons (pv 13) (pa_cons (pe_call GTl hr3 rfl T.trials FTl.kp bTl .nil pass0 (pa_cons (pv 6) pa_nil)) (pa_cons (pv 12) pa_nil)))))))
      (pss_cons (ps_if (pt_not (pt_val (pe_call GSa hr1 rfl T.says FSa.kp bSa .nil pass0 (pa_cons (pv 14) (pa_cons (pe_call GDu hr2 rfl T.due FDu.kp bDu .nil pass0 (pa_cons (pv 8) (pa_cons (pv 5) (pa_cons (pv 6) (pa_cons (pv 11) (pa_cons (pv 12) (pa_cons (pv 9) pa_nil))))))) pa_nil))))) (pss_one (ps_ret pe_bl)) pss_nil)
      (pss_cons (ps_set (i := 15) scLaw.nd rfl (Or.inl rfl) (pe_call GCs hr6 rfl T.cks FCs.kp bC0 vC0 passL (pa_cons (pv 7) (pa_cons (pe_call GTl hr3 rfl T.trials FTl.kp bTl .nil pass0 (pa_cons (pv 5) pa_nil)) (pa_cons (pv 13) pa_nil)))))
      (pss_one (ps_if (PW.pt (pw_or (pt_not (pt_val (pe_call GSa hr1 rfl T.says FSa.kp bSa .nil pass0 (pa_cons (pv 15) (pa_cons (pe_call GDu hr2 rfl T.due FDu.kp bDu .nil pass0 (pa_cons (pv 8) (pa_cons (pv 5) (pa_cons (pe_lst pa_nil) (pa_cons (pv 11) (pa_cons pe_int (pa_cons (pv 9) pa_nil))))))) pa_nil))))) (pw_or1 (pt_cmpR (op_neD hr.units) (pv 13) (pv 11) (nomark _))))) (pss_one (ps_ret pe_bl)) pss_nil)))))))))
      (pss_cons (ps_set (i := 16) scLaw.nd rfl (Or.inl rfl) (pe_ix ix_list (pe_lst (pa_cons (pe_un un_neg pe_int) (pa_cons (pe_op op_add (pv 9) pe_int) pa_nil))) (pe_call GT hr1 rfl T.take FT.kp bT .nil pass0 (pa_cons (pv 1) (pa_cons pe_int pa_nil))) (fun _ _ => rfl)))
      (pss_cons (ps_set (i := 17) scLaw.nd rfl (Or.inl rfl) (pe_call GT hr1 rfl T.take FT.kp bT .nil pass0 (pa_cons (pv 1) (pa_cons (pe_op op_add (pe_callB call_len_seq (by rfl) T.b_len PySem.boot_len (pa_cons (pv 5) pa_nil)) pe_int) pa_nil))))
      (pss_one (ps_ret (pe_call GRf hr8 rfl T.rfs FRf.kp bRf .nil pass0 (pa_cons (pv 7) (pa_cons (pv 5) (pa_cons (pv 6) (pa_cons (pv 4) (pa_cons (pv 16) (pa_cons (pv 17) (pa_cons (pe_op op_sub (pe_un un_neg pe_int) (pe_call GT hr1 rfl T.take FT.kp bT .nil pass0 (pa_cons (pv 1) (pa_cons pe_int pa_nil)))) pa_nil))))))))))))))))))), ?_⟩
    have szf : ∀ {z : Int}, 0 ≤ z → z ≤ 1000 → z.natAbs < 2 ^ 8000 := fun {z} a b => Nat.lt_of_le_of_lt (show z.natAbs ≤ 1000 by omega) (by decide +kernel)
    refine ⟨_, rfl, a, ns, rfl, h1, h2, fun b l H1 B1 nb nl s1 => ?_⟩
    clear s1 nb nl
    refine ⟨_, rfl, _, rfl, b, l, _, rfl, B1, by decide, by decide, fun cnt H2 c0 c1 B2 k2 => ⟨b, l, _, _, rfl, B2, by decide, by decide, c0, by omega, fun u p q t a' ws ls hs rows H3 hu dr B3 S3 => ?_⟩⟩
    clear k2 B1 B2 S3
    refine ⟨_, _, rfl, SqT.of hu, rfl, _, _, rfl, _, _, rfl, _, _, rfl, _, _, rfl, rfl, ?_⟩
    obtain ⟨tall, t0, t1, Sp⟩ := dr.spec
    have lk := dr.link
    have ll := dr.few
    have rm := dr.mny
    have hl := Sp.fits.len
    have p1 := Sp.one
    have p6 := Sp.most
    have w3 : ws.length ≤ 3 := by
      have := congrArg List.length Sp.names
      rw [List.length_map, List.length_take] at this
      have : ws.length = min ws.length 3 := this
      omega
    have szw : ∀ z : Int, 0 ≤ z → z ≤ 10 ^ 17 → Sz z := fun z a b => Nat.lt_of_le_of_lt (show z.natAbs ≤ 10 ^ 17 by omega) (by decide +kernel)
    have szn : ∀ z : Int, -100 ≤ z → z ≤ 100 → Sz z := fun z a b => Nat.lt_of_le_of_lt (show z.natAbs ≤ 100 by omega) (by decide +kernel)
    have hld : linksDue (places ws : Nat) ls = none := links_none fun x hx => by
      have k := lk x hx
      rw [← hl]
      exact ⟨k.f, k.s, k.ne⟩
    have hsh : Shaped ws ls := ⟨⟨pot hs, Sp.shape lk⟩, hld, by omega⟩
    have fz : ∀ w ∈ ws, Sz w.2.2.1 ∧ ∀ x ∈ w.2.2.2, Sz x := fun w hw => by
      obtain ⟨_, ⟨a, b⟩, c⟩ := Sp.num w hw
      exact ⟨szw _ a (by omega), fun x hx => szw _ (by have := (c x hx).1; omega) (by have := (c x hx).2; omega)⟩
    have few : (toldOf ws ls).length ≤ 900 := told_few (by omega) (by omega)
    have stn := steps_nodes hld
    have fit3 : ∀ y ∈ names3, Fit y := by
      intro y hy
      simp only [names3, List.mem_cons, List.not_mem_nil, or_false] at hy
      rcases hy with rfl | rfl | rfl
      · exact ⟨by decide +kernel, by decide +kernel⟩
      · exact ⟨by decide +kernel, by decide +kernel⟩
      · exact ⟨by decide +kernel, by decide +kernel⟩
    have hin0 : ∀ r ∈ rows, 0 ≤ r.1 ∧ r.1 < hs.length := fun r hr => ⟨(dr.near r hr).1, (dr.near r hr).2.1⟩
    have W3 := dr.W
    have L3 := dr.L
    have T3 := dr.T
    have hn : ((hs.length : Nat) : Int) = (places ws : Nat) := by omega
    have small := Sp.small
    refine ⟨_, rfl, _, rfl, _, rfl, b, l, _, rfl, B3, by decide, by decide, fun cf H4 cf0 cf1 B4 k4 => ?_⟩
    have S4 := SameB.of k4
    have W4 := W3.sameB B3 S4
    have L4 := L3.sameB B3 S4
    have T4 := S4 _ _ (B3.neZ T3) T3
    have R4 := dr.R.draw B3 S4
    clear k4 S4
    refine ⟨b, l, t, hs, cf, 9, rfl, B4, T4, by omega, by omega, fun x hx => by have := small x hx; omega, cf0, by omega, by decide, by decide, fun F5 tf fx H5 nF eF RF lF nrF B5 S5 => ?_⟩
    have W5 := W4.sameB B4 S5
    have L5 := L4.sameB B4 S5
    have T5 := S5 _ _ (B4.neZ T4) T4
    have R5 := R4.draw B4 S5
    have F5' : RwAt H5 F5 fx := ⟨tf, eF, RF⟩
    have ip : inPl ws rows := fun r hr => by have := hin0 r hr; omega
    have iq : inPl ws fx := fun r hr => by have := nrF r hr; exact ⟨this.1, by have := this.2.1; omega⟩
    clear W4 L4 T4 R4 B4 S5 eF RF nF W3 L3 T3 B3
    refine ⟨_, rfl, _, rfl, mk_site3 W5.in_ L5.in_ (by omega) (by omega) (fun w hw => ?_) (fun x hx => ?_) Sp.rows (by omega) hld hsh.sh fun site H7 nr S7 hS => ?_⟩
    · obtain ⟨⟨a, b⟩, _, _⟩ := Sp.num w hw
      refine ⟨fit3 _ ?_, szw _ a (by omega), (fz w hw).1, (fz w hw).2⟩
      have hm : w.1 ∈ ws.map (·.1) := List.mem_map.mpr ⟨w, hw, rfl⟩
      rw [Sp.names] at hm
      exact List.mem_of_mem_take hm
    · have k := lk x hx
      exact ⟨szn _ (by have := k.f; omega) (by have := k.f; omega), szn _ (by have := k.s; omega) (by have := k.s; omega)⟩
    refine ⟨_, rfl, _, rfl, p, q, ws, ls, rfl, W5.same S7, L5.same S7, by omega, by omega, fz, fun st H8 nst S8 LS => ?_⟩
    have S78 := same_tr S7 S8
    have T8 := S78 _ _ T5
    have B8 := B5.same S78
    have R8 := R5.same S78
    have F8 := F5'.same S78
    have hS8 := hS.same S8
    clear W5 L5 T5 R5 F5' B5 S78 S7 S8 nst hS nr
    refine ⟨_, rfl, t, _, rfl, .inl (SqL.of T8), ?_⟩
    rw [show (hs.map V.int).length = places ws by rw [List.length_map]; omega]
    refine ⟨_, rfl, by omega, by omega, ?_⟩
    have ntb : t ≠ b := B8.neZ T8
    have zr : ∀ {rs : List TRow}, inPl ws rs → ∀ q ∈ rs, Sz q.1 := fun h q hq => by
      obtain ⟨q0, q1⟩ := h q hq
      exact szn _ (by omega) (by omega)
    have bA := badP_in ip
    have bB := badP_in iq
    have lF2 : fx.length ≤ 60 := by omega
    refine for_it (walk_range (lo := 0) (n := (4 : Int).toNat)) (fun i σ' H' => ∃ v10 v11 v12 v13 v14 v15 : Option V, σ' = [some (.ref a), some (.ref b), some (.ref p), some (.ref q), some (.ref t), some (.ref a'), some (.ref F5), some (.ref site), some (.ref st), some (.int (places ws : Nat)), v10, v11, v12, v13, v14, v15, none, none] ∧ Box H' b l ∧ SameB b H8 H')
      ⟨_, _, _, _, _, _, rfl, B8, fun _ _ _ e => e⟩ (fun _ _ _ _ _ => trivial) ?_ ?_
    · rintro i y σ' H10 H10' hi ⟨v10, v11, v12, v13, v14, v15, rfl, B10, S10⟩ ⟨rfl, rfl⟩
      have T10 := S10 _ _ ntb T8
      refine ⟨_, rfl, _, rfl, b, l, t, hs, rfl, B10, T10, by omega, by omega, fun D x H11 nD eD xl B11 S11 => ?_⟩
      have nDb := B11.neZ eD
      refine ⟨_, rfl, b, l, _, rfl, B11, by decide, by decide, fun sp H12 sp0 sp1 B12 k12 => ?_⟩
      have e12 := (k12 D nDb).trans eD
      have S12 := (S10.trans S11).trans (SameB.of k12)
      refine ⟨_, rfl, D, _, rfl, .inl (SqL.of e12), fun pd hpd => ?_⟩
      have s13 := same_new (o := .lst (x.map V.int)) hpd
      have P13 : upd H12 pd (.lst (x.map V.int)) pd = some (.lst (x.map V.int)) := upd_same
      have e13 := s13 _ _ e12
      have B13 := B12.same s13
      have S13 := S12.trans (SameB.of_same s13)
      generalize upd H12 pd (.lst (x.map V.int)) = H13 at P13 e13 B13 S13
      clear s13 hpd e12 S12 k12 B12 B11 eD S11 T10
      have R13 := R8.draw B8 S13
      have F13 := F8.draw B8 S13
      have hS13 := hS8.draw B8 S13
      have LS13 := LS.draw B8 S13
      refine ⟨_, rfl, _, rfl, a', rows, rfl, R13, by omega, fun T1 H14 n14 T14 S14 => ?_⟩
      refine ⟨_, rfl, _, rfl, F5, fx, rfl, F13.same S14, by omega, fun T2 H15 n15 T15 S15 => ?_⟩
      have S35 := same_tr S14 S15
      have no1 := dueCk_ok (tr := rows) (sr := fx) (m := sp) bA bB sp0
      refine ⟨_, rfl, site, T1, pd, T2, sp, ws, ls, x, rows, fx, rfl, hS13.same S35, few, hld, (T14.same S15).sq, T15.sq, S35 _ _ P13, by omega, by omega, by omega, zr ip, zr iq, szn _ (by omega) (by omega), fun p hp => (by rw [no1] at hp; cases hp), fun p hp => (by rw [no1] at hp; cases hp), fun _ H16 S16 => ?_⟩
      have S36 := same_tr S35 S16
      refine ⟨_, rfl, _, rfl, _, rfl, _, rfl, _, rfl, _, rfl, _, rfl, st, a', F5, D, ws, ls, x, rows, fx, sp, rfl, LS13.same S36, hld, R13.same S36, F13.same S36, S36 _ _ e13, by omega, ip, iq, by omega, by omega, fun H17 S17 => ?_⟩
      have S37 := same_tr S36 S17
      refine ⟨_, _, rfl, ?_⟩
      refine ⟨_, rfl, if_f (by rw [decide_eq_true rfl]; rfl) ?_⟩
      clear S16 S17 S36 T14 T15 n14 n15 S14 S15 S35
      have S17 := S13.trans (SameB.of_same S37)
      have B17 := B13.same S37
      have P17 := S37 _ _ P13
      have e17 := S37 _ _ e13
      have R17 := R13.same S37
      have hS17 := hS13.same S37
      have LS17 := LS13.same S37
      clear P13 e13 B13 S13 R13 F13 hS13 LS13 S37
      have tE : ∀ {H' : Hp}, TSq K CT H' aD [] := fun {H'} => ⟨[], .inr (hE H'), rfl, fun i t q h => by cases h⟩
      have no2 := dueCk_ok (tr := rows) (sr := []) (m := 0) bA rfl (Int.le_refl 0)
      refine ⟨_, rfl, _, rfl, a', rows, rfl, R17, by omega, fun T3 H18 n18 T18 S18 => ?_⟩
      refine ⟨_, rfl, site, T3, pd, aD, 0, ws, ls, x, rows, [], rfl, hS17.same S18, few, hld, T18.sq, tE, S18 _ _ P17, by omega, by omega, by show 0 ≤ 900; decide, zr ip, (fun q hq => nomatch hq), szn _ (by decide) (by decide), fun b hb => (by rw [no2] at hb; cases hb), fun _ H19 S19 => ?_⟩
      have S79 := same_tr S18 S19
      refine ⟨_, rfl, _, rfl, _, rfl, by show 0 ≤ sizeLine; decide, fun e0 he0 => ?_⟩
      have s20 := same_new (o := .lst []) he0
      have E20 : RwAt (upd H19 e0 (.lst [])) e0 [] := ⟨[], upd_same, rfl, fun i t q h => by cases h⟩
      generalize upd H19 e0 (.lst []) = H20 at s20 E20
      have S720 := same_tr S79 s20
      refine ⟨_, rfl, _, rfl, st, a', e0, D, ws, ls, x, rows, [], 0, rfl, LS17.same S720, hld, R17.same S720, E20, S720 _ _ e17, by omega, ip, (fun q hq => nomatch hq), by omega, by show 0 ≤ 900; decide, fun H21 S21 => ?_⟩
      have S721 := same_tr S720 S21
      refine ⟨_, _, rfl, ?_⟩
      refine ⟨_, rfl, if_f (by rw [decide_eq_true rfl]; rfl) ?_⟩
      refine ⟨_, rfl, _, rfl, ne_same (S721 _ _ P17) (S721 _ _ e17) ⟨_, rfl, if_f rfl ?_⟩⟩
      exact ⟨_, _, _, _, _, _, rfl, B17.same S721, S17.trans (SameB.of_same S721)⟩
    rintro σ' H10 ⟨v10, v11, v12, v13, v14, v15, rfl, B10, S10⟩
    refine ⟨_, rfl, _, rfl, _, _, rfl, rfl, by show 2 ≤ sizeLine; decide, fun od hod => ?_⟩
    have nodb := Ne.symm (B10.free hod).1
    have s11 := same_new (o := .lst [V.int (-1), V.int ((places ws : Nat) + 4)]) hod
    have O11 : upd H10 od (.lst [V.int (-1), V.int ((places ws : Nat) + 4)]) od = some (.lst [V.int (-1), V.int ((places ws : Nat) + 4)]) := upd_same
    have eh : upd H10 od (.lst [V.int (-1), (fun i j : Int => V.int (i + j)) ((places ws : Nat) : Int) 4]) = upd H10 od (.lst [V.int (-1), V.int ((places ws : Nat) + 4)]) := rfl
    have B11 := B10.same s11
    have S11 := S10.trans (SameB.of_same s11)
    refine ⟨_, rfl, b, l, _, rfl, B11, by decide, by decide, fun rc H12 c0 c1 B12 k12 => ?_⟩
    obtain ⟨o, hod2, hob, ho1, ho2⟩ : ∃ o : Int, atI [V.int (-1), V.int ((places ws : Nat) + 4)] rc = some (.int o) ∧ outB ws o ∧ -10 ≤ o ∧ o ≤ 49 := by
      have : rc = 0 ∨ rc = 1 := by omega
      rcases this with rfl | rfl
      · exact ⟨-1, rfl, fun z => by omega, by omega, by omega⟩
      · exact ⟨_, rfl, fun z => by omega, by omega, by omega⟩
    have S12 := S11.trans (SameB.of k12)
    refine ⟨od, _, rc, _, rfl, rfl, SqL.of ((k12 od nodb).trans O11), hod2, ?_⟩
    clear k12 S11 B11 O11 s11 hod eh
    have R12 := R8.draw B8 S12
    obtain ⟨tr, r1, r2, _⟩ := id R12
    refine ⟨_, rfl, _, rfl, a', _, rfl, .inl (SqL.of r1), _, _, rfl, rfl, b, l, _, rfl, B12, by omega, szf (by omega) (by rw [List.length_map]; omega), fun rd H13 d0 d1 B13 k13 => ?_⟩
    rw [List.length_map] at d1
    have S13 := S12.trans (SameB.of k13)
    have R13 := R8.draw B8 S13
    have F13 := F8.draw B8 S13
    have hS13 := hS8.draw B8 S13
    have T13 := S13 _ _ ntb T8
    refine ⟨_, rfl, _, rfl, _, rfl, _, rfl, _, rfl, _, rfl, _, rfl, _, rfl, b, l, _, rfl, B13, by decide, by decide, fun re H14 x0 x1 B14 k14 => ⟨_, _, rfl, rfl, ?_⟩⟩
    have S14 := SameB.of k14
    exact ⟨site, a', F5, t, o, rd, -1 - re, ws, ls, hs, rows, fx, rfl, hS13.draw B13 S14, few, hld, R13.draw B13 S14, F13.draw B13 S14, ip, iq, S14 _ _ (B13.neZ T13) T13, by omega, by omega, by omega, by omega, hob, ho1, ho2, d0, by omega, by omega, by omega, fun H' _ => h3 H'⟩
end
end Law

namespace Law
open PySem PySem.Spec PyProof.Rows L2 Sup NdefX
abbrev sEN : Stmt := inClass (top 4) 0
abbrev sET : Stmt := inClass (top 5) 0
abbrev sEP : Stmt := inClass (top 6) 0
abbrev sEM : Stmt := inClass (top 7) 0
abbrev sES : Stmt := inClass (top 8) 0
theorem all_mk {P : Program} {w : World} {K : PySem.W.Frag} {h : Heap} {mg : Str → Option Value} {fa : Addr} (X : K.In h) (G : h.Ns mainGlobals mg) (hfa : mg "law" = some (.ref fa)) (htop : (P.main.scope.names.lookup ("super" : Str)).isSome = false)
    {fN : Addr} {odN anN : Option Addr} {slN : Array (Option Value)} {ocN kVN dcN pmN cdN ctN : Value}
    {fK : Addr} {odK anK : Option Addr} {slK : Array (Option Value)} {ocK kVK dcK pmK cdK ctK : Value}
    {fCr : Addr} {odCr anCr : Option Addr} {slCr : Array (Option Value)} {ocCr kVCr dcCr pmCr cdCr ctCr : Value}
    {fCu : Addr} {odCu anCu : Option Addr} {slCu : Array (Option Value)} {ocCu kVCu dcCu pmCu cdCu ctCu : Value}
    {fCl : Addr} {odCl anCl : Option Addr} {slCl : Array (Option Value)} {ocCl kVCl dcCl pmCl cdCl ctCl : Value}
    {fSo : Addr} {odSo anSo : Option Addr} {slSo : Array (Option Value)} {ocSo kVSo dcSo pmSo cdSo ctSo : Value}
    {fTo : Addr} {odTo anTo : Option Addr} {slTo : Array (Option Value)} {ocTo kVTo dcTo pmTo cdTo ctTo : Value}
    {fTd : Addr} {odTd anTd : Option Addr} {slTd : Array (Option Value)} {ocTd kVTd dcTd pmTd cdTd ctTd : Value}
    {fGr : Addr} {odGr anGr : Option Addr} {slGr : Array (Option Value)} {ocGr kVGr dcGr pmGr cdGr ctGr : Value}
    {fSl : Addr} {odSl anSl : Option Addr} {slSl : Array (Option Value)} {ocSl kVSl dcSl pmSl cdSl ctSl : Value}
    {fLk : Addr} {odLk anLk : Option Addr} {slLk : Array (Option Value)} {ocLk kVLk dcLk pmLk cdLk ctLk : Value}
    {fFi : Addr} {odFi anFi : Option Addr} {slFi : Array (Option Value)} {ocFi kVFi dcFi pmFi cdFi ctFi : Value}
    {fRb : Addr} {odRb anRb : Option Addr} {slRb : Array (Option Value)} {ocRb kVRb dcRb pmRb cdRb ctRb : Value}
    {fLs : Addr} {odLs anLs : Option Addr} {slLs : Array (Option Value)} {ocLs kVLs dcLs pmLs cdLs ctLs : Value}
    {fFs : Addr} {odFs anFs : Option Addr} {slFs : Array (Option Value)} {ocFs kVFs dcFs pmFs cdFs ctFs : Value}
    {fSb : Addr} {odSb anSb : Option Addr} {slSb : Array (Option Value)} {ocSb kVSb dcSb pmSb cdSb ctSb : Value}
    {fMi : Addr} {odMi anMi : Option Addr} {slMi : Array (Option Value)} {ocMi kVMi dcMi pmMi cdMi ctMi : Value}
    {DTMi : Addr} {xoMi : Value} {xdMi : Option Addr} {xsMi : Array (Option Value)} {xnMi : Nat} {aDf : Addr}
    {fMf : Addr} {odMf anMf : Option Addr} {slMf : Array (Option Value)} {ocMf kVMf dcMf pmMf cdMf ctMf : Value}
    {fMc : Addr} {odMc anMc : Option Addr} {slMc : Array (Option Value)} {ocMc kVMc dcMc pmMc cdMc ctMc : Value}
    {fTi : Addr} {odTi anTi : Option Addr} {slTi : Array (Option Value)} {ocTi kVTi dcTi pmTi cdTi ctTi : Value}
    {fPs : Addr} {odPs anPs : Option Addr} {slPs : Array (Option Value)} {ocPs kVPs dcPs pmPs cdPs ctPs : Value}
    {fTg : Addr} {odTg anTg : Option Addr} {slTg : Array (Option Value)} {ocTg kVTg dcTg pmTg cdTg ctTg : Value}
    {fMq : Addr} {odMq anMq : Option Addr} {slMq : Array (Option Value)} {ocMq kVMq dcMq pmMq cdMq ctMq : Value}
    {fCk : Addr} {odCk anCk : Option Addr} {slCk : Array (Option Value)} {ocCk kVCk dcCk pmCk cdCk ctCk : Value}
    {fB : Addr} {odB anB : Option Addr} {slB : Array (Option Value)} {ocB kVB dcB pmB cdB ctB : Value}
    {fT : Addr} {odT anT : Option Addr} {slT : Array (Option Value)} {ocT kVT dcT pmT cdT ctT : Value}
    {fTr : Addr} {odTr anTr : Option Addr} {slTr : Array (Option Value)} {ocTr kVTr dcTr pmTr cdTr ctTr : Value}
    {fSn : Addr} {odSn anSn : Option Addr} {slSn : Array (Option Value)} {ocSn kVSn dcSn pmSn cdSn ctSn : Value}
    {fSc : Addr} {odSc anSc : Option Addr} {slSc : Array (Option Value)} {ocSc kVSc dcSc pmSc cdSc ctSc : Value}
    {fLq : Addr} {odLq anLq : Option Addr} {slLq : Array (Option Value)} {ocLq kVLq dcLq pmLq cdLq ctLq : Value}
    {fSt : Addr} {odSt anSt : Option Addr} {slSt : Array (Option Value)} {ocSt kVSt dcSt pmSt cdSt ctSt : Value}
    {fTs : Addr} {odTs anTs : Option Addr} {slTs : Array (Option Value)} {ocTs kVTs dcTs pmTs cdTs ctTs : Value}
    {fTl : Addr} {odTl anTl : Option Addr} {slTl : Array (Option Value)} {ocTl kVTl dcTl pmTl cdTl ctTl : Value}
    {fBg : Addr} {odBg anBg : Option Addr} {slBg : Array (Option Value)} {ocBg kVBg dcBg pmBg cdBg ctBg : Value}
    {fLF : Addr} {odLF anLF : Option Addr} {slLF : Array (Option Value)} {ocLF kVLF dcLF pmLF cdLF ctLF : Value}
    {fMs : Addr} {odMs anMs : Option Addr} {slMs : Array (Option Value)} {ocMs kVMs dcMs pmMs cdMs ctMs : Value}
    {fOu : Addr} {odOu anOu : Option Addr} {slOu : Array (Option Value)} {ocOu kVOu dcOu pmOu cdOu ctOu : Value}
    {fDu : Addr} {odDu anDu : Option Addr} {slDu : Array (Option Value)} {ocDu kVDu dcDu pmDu cdDu ctDu : Value}
    {fCg : Addr} {odCg anCg : Option Addr} {slCg : Array (Option Value)} {ocCg kVCg dcCg pmCg cdCg ctCg : Value}
    {fRf : Addr} {odRf anRf : Option Addr} {slRf : Array (Option Value)} {ocRf kVRf dcRf pmRf cdRf ctRf : Value}
    {fSa : Addr} {odSa anSa : Option Addr} {slSa : Array (Option Value)} {ocSa kVSa dcSa pmSa cdSa ctSa : Value}
    {fL : Addr} {odL anL : Option Addr} {slL : Array (Option Value)} {ocL kVL dcL pmL cdL ctL : Value}
    {CEB BEB fiEB cdEB ccEB NEB : Addr} {nmEB qEB : Str} {bsEB : List Value} {snEB : List Str} {subEB : List Value} {abEB : Bool} {colEB : Option Bool} {ddEB : Option Addr} {m0EB m1EB m2EB m3EB m5EB : Option Value}
    {odEB anEB dkEB deEB : Option Addr} {slEB skEB seEB : Array (Option Value)} {ocEB kVEB dcEB pmEB ctEB ckEB ceEB : Value} {vkEB : Array Value} {flEB : Str} {tfEB : Tok}
    {CEN BEN fiEN cdEN ccEN NEN : Addr} {nmEN qEN : Str} {bsEN : List Value} {snEN : List Str} {subEN : List Value} {abEN : Bool} {colEN : Option Bool} {ddEN : Option Addr} {m0EN m1EN m2EN m3EN m5EN : Option Value}
    {odEN anEN dkEN deEN : Option Addr} {slEN skEN seEN : Array (Option Value)} {ocEN kVEN dcEN pmEN ctEN ckEN ceEN : Value} {vkEN : Array Value} {flEN : Str} {tfEN : Tok}
    {CET BET fiET cdET ccET NET : Addr} {nmET qET : Str} {bsET : List Value} {snET : List Str} {subET : List Value} {abET : Bool} {colET : Option Bool} {ddET : Option Addr} {m0ET m1ET m2ET m3ET m5ET : Option Value}
    {odET anET dkET deET : Option Addr} {slET skET seET : Array (Option Value)} {ocET kVET dcET pmET ctET ckET ceET : Value} {vkET : Array Value} {flET : Str} {tfET : Tok}
    {CEP BEP fiEP cdEP ccEP NEP : Addr} {nmEP qEP : Str} {bsEP : List Value} {snEP : List Str} {subEP : List Value} {abEP : Bool} {colEP : Option Bool} {ddEP : Option Addr} {m0EP m1EP m2EP m3EP m5EP : Option Value}
    {odEP anEP dkEP deEP : Option Addr} {slEP skEP seEP : Array (Option Value)} {ocEP kVEP dcEP pmEP ctEP ckEP ceEP : Value} {vkEP : Array Value} {flEP : Str} {tfEP : Tok}
    {CEM BEM fiEM cdEM ccEM NEM : Addr} {nmEM qEM : Str} {bsEM : List Value} {snEM : List Str} {subEM : List Value} {abEM : Bool} {colEM : Option Bool} {ddEM : Option Addr} {m0EM m1EM m2EM m3EM m5EM : Option Value}
    {odEM anEM dkEM deEM : Option Addr} {slEM skEM seEM : Array (Option Value)} {ocEM kVEM dcEM pmEM ctEM ckEM ceEM : Value} {vkEM : Array Value} {flEM : Str} {tfEM : Tok}
    {CES BES fiES cdES ccES NES : Addr} {nmES qES : Str} {bsES : List Value} {snES : List Str} {subES : List Value} {abES : Bool} {colES : Option Bool} {ddES : Option Addr} {m0ES m1ES m2ES m3ES m5ES : Option Value}
    {odES anES dkES deES : Option Addr} {slES skES seES : Array (Option Value)} {ocES kVES dcES pmES ctES ckES ceES : Value} {vkES : Array Value} {flES : Str} {tfES : Tok}
    {CSite CTrial KDCk xDu : Addr} {tkLT tkLG tkMP tkGR tkMs : Tok} {ddU : Option Addr} {nU : Nat} {slU : Array (Option Value)}
    (aCS : PySem.W.nsIn K mainGlobals "Site" = some (some (.ref CSite)))
    (aCT : PySem.W.nsIn K mainGlobals "Trial" = some (some (.ref CTrial)))
    (aN : PySem.W.nsIn K mainGlobals "check_name" = some (some (.ref fN)))
    (lN : K.lookup fN = some ⟨ocN, odN, .func (PySem.W.fnOf "check_name" "check_name" (defArgs sCkn) (defBody sCkn) (defScope sCkn) .none kVN dcN pmN anN cdN ctN), slN⟩)
    (cN : PySem.W.codeIn K cdN "check_name" = true)
    (kN : PySem.W.keepIn K (.ref fN) = true)
    (aK : PySem.W.nsIn K mainGlobals "check_not_negative" = some (some (.ref fK)))
    (lK : K.lookup fK = some ⟨ocK, odK, .func (PySem.W.fnOf "check_not_negative" "check_not_negative" (defArgs sChk) (defBody sChk) (defScope sChk) .none kVK dcK pmK anK cdK ctK), slK⟩)
    (cK : PySem.W.codeIn K cdK "check_not_negative" = true)
    (kK : PySem.W.keepIn K (.ref fK) = true)
    (aCr : PySem.W.nsIn K mainGlobals "_check_rows" = some (some (.ref fCr)))
    (lCr : K.lookup fCr = some ⟨ocCr, odCr, .func (PySem.W.fnOf "_check_rows" "_check_rows" (defArgs sCro) (defBody sCro) (defScope sCro) .none kVCr dcCr pmCr anCr cdCr ctCr), slCr⟩)
    (cCr : PySem.W.codeIn K cdCr "_check_rows" = true)
    (kCr : PySem.W.keepIn K (.ref fCr) = true)
    (aCu : PySem.W.nsIn K mainGlobals "_check_numbers" = some (some (.ref fCu)))
    (lCu : K.lookup fCu = some ⟨ocCu, odCu, .func (PySem.W.fnOf "_check_numbers" "_check_numbers" (defArgs sCnu) (defBody sCnu) (defScope sCnu) .none kVCu dcCu pmCu anCu cdCu ctCu), slCu⟩)
    (cCu : PySem.W.codeIn K cdCu "_check_numbers" = true)
    (kCu : PySem.W.keepIn K (.ref fCu) = true)
    (aCl : PySem.W.nsIn K mainGlobals "_check_links" = some (some (.ref fCl)))
    (lCl : K.lookup fCl = some ⟨ocCl, odCl, .func (PySem.W.fnOf "_check_links" "_check_links" (defArgs sCli) (defBody sCli) (defScope sCli) .none kVCl dcCl pmCl anCl cdCl ctCl), slCl⟩)
    (cCl : PySem.W.codeIn K cdCl "_check_links" = true)
    (kCl : PySem.W.keepIn K (.ref fCl) = true)
    (aSo : PySem.W.nsIn K mainGlobals "_spots_of" = some (some (.ref fSo)))
    (lSo : K.lookup fSo = some ⟨ocSo, odSo, .func (PySem.W.fnOf "_spots_of" "_spots_of" (defArgs sSpots) (defBody sSpots) (defScope sSpots) .none kVSo dcSo pmSo anSo cdSo ctSo), slSo⟩)
    (cSo : PySem.W.codeIn K cdSo "_spots_of" = true)
    (kSo : PySem.W.keepIn K (.ref fSo) = true)
    (aTo : PySem.W.nsIn K mainGlobals "_tops_of" = some (some (.ref fTo)))
    (lTo : K.lookup fTo = some ⟨ocTo, odTo, .func (PySem.W.fnOf "_tops_of" "_tops_of" (defArgs sTops) (defBody sTops) (defScope sTops) .none kVTo dcTo pmTo anTo cdTo ctTo), slTo⟩)
    (cTo : PySem.W.codeIn K cdTo "_tops_of" = true)
    (kTo : PySem.W.keepIn K (.ref fTo) = true)
    (aTd : PySem.W.nsIn K mainGlobals "_told_limits" = some (some (.ref fTd)))
    (lTd : K.lookup fTd = some ⟨ocTd, odTd, .func (PySem.W.fnOf "_told_limits" "_told_limits" (defArgs sTold) (defBody sTold) (defScope sTold) .none kVTd dcTd pmTd anTd cdTd ctTd), slTd⟩)
    (cTd : PySem.W.codeIn K cdTd "_told_limits" = true)
    (kTd : PySem.W.keepIn K (.ref fTd) = true)
    (aGr : PySem.W.nsIn K mainGlobals "_ground_limits" = some (some (.ref fGr)))
    (lGr : K.lookup fGr = some ⟨ocGr, odGr, .func (PySem.W.fnOf "_ground_limits" "_ground_limits" (defArgs sGrd) (defBody sGrd) (defScope sGrd) .none kVGr dcGr pmGr anGr cdGr ctGr), slGr⟩)
    (cGr : PySem.W.codeIn K cdGr "_ground_limits" = true)
    (kGr : PySem.W.keepIn K (.ref fGr) = true)
    (aSl : PySem.W.nsIn K mainGlobals "_slope_limits" = some (some (.ref fSl)))
    (lSl : K.lookup fSl = some ⟨ocSl, odSl, .func (PySem.W.fnOf "_slope_limits" "_slope_limits" (defArgs sSlp) (defBody sSlp) (defScope sSlp) .none kVSl dcSl pmSl anSl cdSl ctSl), slSl⟩)
    (cSl : PySem.W.codeIn K cdSl "_slope_limits" = true)
    (kSl : PySem.W.keepIn K (.ref fSl) = true)
    (aLk : PySem.W.nsIn K mainGlobals "_link_limits" = some (some (.ref fLk)))
    (lLk : K.lookup fLk = some ⟨ocLk, odLk, .func (PySem.W.fnOf "_link_limits" "_link_limits" (defArgs sLnk) (defBody sLnk) (defScope sLnk) .none kVLk dcLk pmLk anLk cdLk ctLk), slLk⟩)
    (cLk : PySem.W.codeIn K cdLk "_link_limits" = true)
    (kLk : PySem.W.keepIn K (.ref fLk) = true)
    (aFi : PySem.W.nsIn K mainGlobals "_find_ring" = some (some (.ref fFi)))
    (lFi : K.lookup fFi = some ⟨ocFi, odFi, .func (PySem.W.fnOf "_find_ring" "_find_ring" (defArgs sFnd) (defBody sFnd) (defScope sFnd) .none kVFi dcFi pmFi anFi cdFi ctFi), slFi⟩)
    (cFi : PySem.W.codeIn K cdFi "_find_ring" = true)
    (kFi : PySem.W.keepIn K (.ref fFi) = true)
    (aRb : PySem.W.nsIn K mainGlobals "_ring_behind" = some (some (.ref fRb)))
    (lRb : K.lookup fRb = some ⟨ocRb, odRb, .func (PySem.W.fnOf "_ring_behind" "_ring_behind" (defArgs sRgb) (defBody sRgb) (defScope sRgb) .none kVRb dcRb pmRb anRb cdRb ctRb), slRb⟩)
    (cRb : PySem.W.codeIn K cdRb "_ring_behind" = true)
    (kRb : PySem.W.keepIn K (.ref fRb) = true)
    (aLs : PySem.W.nsIn K mainGlobals "_least_sums" = some (some (.ref fLs)))
    (lLs : K.lookup fLs = some ⟨ocLs, odLs, .func (PySem.W.fnOf "_least_sums" "_least_sums" (defArgs sLst) (defBody sLst) (defScope sLst) .none kVLs dcLs pmLs anLs cdLs ctLs), slLs⟩)
    (cLs : PySem.W.codeIn K cdLs "_least_sums" = true)
    (kLs : PySem.W.keepIn K (.ref fLs) = true)
    (aFs : PySem.W.nsIn K mainGlobals "_first_sum" = some (some (.ref fFs)))
    (lFs : K.lookup fFs = some ⟨ocFs, odFs, .func (PySem.W.fnOf "_first_sum" "_first_sum" (defArgs sFst) (defBody sFst) (defScope sFst) .none kVFs dcFs pmFs anFs cdFs ctFs), slFs⟩)
    (cFs : PySem.W.codeIn K cdFs "_first_sum" = true)
    (kFs : PySem.W.keepIn K (.ref fFs) = true)
    (aSb : PySem.W.nsIn K mainGlobals "_sums_by" = some (some (.ref fSb)))
    (lSb : K.lookup fSb = some ⟨ocSb, odSb, .func (PySem.W.fnOf "_sums_by" "_sums_by" (defArgs sSby) (defBody sSby) (defScope sSby) .none kVSb dcSb pmSb anSb cdSb ctSb), slSb⟩)
    (cSb : PySem.W.codeIn K cdSb "_sums_by" = true)
    (kSb : PySem.W.keepIn K (.ref fSb) = true)
    (aMi : PySem.W.findIn K (.ref CSite) "__init__" = some (some (.ref fMi)))
    (lMi : K.lookup fMi = some ⟨ocMi, odMi, .func (PySem.W.fnOf "__init__" "Site.__init__" (defArgs sSini) (defBody sSini) (defScope sSini) (.ref DTMi) kVMi dcMi pmMi anMi cdMi ctMi), slMi⟩)
    (cMi : PySem.W.codeIn K cdMi "Site.__init__" = true)
    (kMi : PySem.W.keepIn K (.ref fMi) = true)
    (iMi : PySem.W.isFn K (.ref fMi) = true)
    (dMi : K.lookup DTMi = some ⟨xoMi, xdMi, .seq #[.ref aDf] xnMi, xsMi⟩)
    (aMf : PySem.W.findIn K (.ref CSite) "fits" = some (some (.ref fMf)))
    (lMf : K.lookup fMf = some ⟨ocMf, odMf, .func (PySem.W.fnOf "fits" "Site.fits" (defArgs sSfi) (defBody sSfi) (defScope sSfi) .none kVMf dcMf pmMf anMf cdMf ctMf), slMf⟩)
    (cMf : PySem.W.codeIn K cdMf "Site.fits" = true)
    (kMf : PySem.W.keepIn K (.ref fMf) = true)
    (iMf : PySem.W.isFn K (.ref fMf) = true)
    (aMc : PySem.W.findIn K (.ref CSite) "check_place" = some (some (.ref fMc)))
    (lMc : K.lookup fMc = some ⟨ocMc, odMc, .func (PySem.W.fnOf "check_place" "Site.check_place" (defArgs sCp) (defBody sCp) (defScope sCp) .none kVMc dcMc pmMc anMc cdMc ctMc), slMc⟩)
    (cMc : PySem.W.codeIn K cdMc "Site.check_place" = true)
    (kMc : PySem.W.keepIn K (.ref fMc) = true)
    (iMc : PySem.W.isFn K (.ref fMc) = true)
    (aTi : PySem.W.findIn K (.ref CTrial) "__init__" = some (some (.ref fTi)))
    (lTi : K.lookup fTi = some ⟨ocTi, odTi, .func (PySem.W.fnOf "__init__" "Trial.__init__" (defArgs sTini) (defBody sTini) (defScope sTini) .none kVTi dcTi pmTi anTi cdTi ctTi), slTi⟩)
    (cTi : PySem.W.codeIn K cdTi "Trial.__init__" = true)
    (kTi : PySem.W.keepIn K (.ref fTi) = true)
    (iTi : PySem.W.isFn K (.ref fTi) = true)
    (aPs : PySem.W.nsIn K mainGlobals "check_places" = some (some (.ref fPs)))
    (lPs : K.lookup fPs = some ⟨ocPs, odPs, .func (PySem.W.fnOf "check_places" "check_places" (defArgs sCps) (defBody sCps) (defScope sCps) .none kVPs dcPs pmPs anPs cdPs ctPs), slPs⟩)
    (cPs : PySem.W.codeIn K cdPs "check_places" = true)
    (kPs : PySem.W.keepIn K (.ref fPs) = true)
    (aTg : PySem.W.findIn K (.ref CTrial) "agrees" = some (some (.ref fTg)))
    (lTg : K.lookup fTg = some ⟨ocTg, odTg, .func (PySem.W.fnOf "agrees" "Trial.agrees" (defArgs sAgr) (defBody sAgr) (defScope sAgr) .none kVTg dcTg pmTg anTg cdTg ctTg), slTg⟩)
    (cTg : PySem.W.codeIn K cdTg "Trial.agrees" = true)
    (kTg : PySem.W.keepIn K (.ref fTg) = true)
    (iTg : PySem.W.isFn K (.ref fTg) = true)
    (aMq : PySem.W.nsIn K mainGlobals "misread_numbers" = some (some (.ref fMq)))
    (lMq : K.lookup fMq = some ⟨ocMq, odMq, .func (PySem.W.fnOf "misread_numbers" "misread_numbers" (defArgs sMis) (defBody sMis) (defScope sMis) .none kVMq dcMq pmMq anMq cdMq ctMq), slMq⟩)
    (cMq : PySem.W.codeIn K cdMq "misread_numbers" = true)
    (kMq : PySem.W.keepIn K (.ref fMq) = true)
    (aCk : PySem.W.nsIn K mainGlobals "check_shape" = some (some (.ref fCk)))
    (lCk : K.lookup fCk = some ⟨ocCk, odCk, .func (PySem.W.fnOf "check_shape" "check_shape" (defArgs sCks) (defBody sCks) (defScope sCks) .none kVCk dcCk pmCk anCk cdCk ctCk), slCk⟩)
    (cCk : PySem.W.codeIn K cdCk "check_shape" = true)
    (kCk : PySem.W.keepIn K (.ref fCk) = true)
    (aB : PySem.W.nsIn K mainGlobals "_law_box" = some (some (.ref fB)))
    (lB : K.lookup fB = some ⟨ocB, odB, .func (PySem.W.fnOf "_law_box" "_law_box" (defArgs sBox) (defBody sBox) (defScope sBox) .none kVB dcB pmB anB cdB ctB), slB⟩)
    (cB : PySem.W.codeIn K cdB "_law_box" = true)
    (kB : PySem.W.keepIn K (.ref fB) = true)
    (aT : PySem.W.nsIn K mainGlobals "_law_take" = some (some (.ref fT)))
    (lT : K.lookup fT = some ⟨ocT, odT, .func (PySem.W.fnOf "_law_take" "_law_take" (defArgs sTake) (defBody sTake) (defScope sTake) .none kVT dcT pmT anT cdT ctT), slT⟩)
    (cT : PySem.W.codeIn K cdT "_law_take" = true)
    (kT : PySem.W.keepIn K (.ref fT) = true)
    (aTr : PySem.W.nsIn K mainGlobals "_law_truth" = some (some (.ref fTr)))
    (lTr : K.lookup fTr = some ⟨ocTr, odTr, .func (PySem.W.fnOf "_law_truth" "_law_truth" (defArgs sTru) (defBody sTru) (defScope sTru) .none kVTr dcTr pmTr anTr cdTr ctTr), slTr⟩)
    (cTr : PySem.W.codeIn K cdTr "_law_truth" = true)
    (kTr : PySem.W.keepIn K (.ref fTr) = true)
    (aSn : PySem.W.nsIn K mainGlobals "_law_span" = some (some (.ref fSn)))
    (lSn : K.lookup fSn = some ⟨ocSn, odSn, .func (PySem.W.fnOf "_law_span" "_law_span" (defArgs sSpn) (defBody sSpn) (defScope sSpn) .none kVSn dcSn pmSn anSn cdSn ctSn), slSn⟩)
    (cSn : PySem.W.codeIn K cdSn "_law_span" = true)
    (kSn : PySem.W.keepIn K (.ref fSn) = true)
    (aSc : PySem.W.nsIn K mainGlobals "_law_spec" = some (some (.ref fSc)))
    (lSc : K.lookup fSc = some ⟨ocSc, odSc, .func (PySem.W.fnOf "_law_spec" "_law_spec" (defArgs sSpc) (defBody sSpc) (defScope sSpc) .none kVSc dcSc pmSc anSc cdSc ctSc), slSc⟩)
    (cSc : PySem.W.codeIn K cdSc "_law_spec" = true)
    (kSc : PySem.W.keepIn K (.ref fSc) = true)
    (aLq : PySem.W.nsIn K mainGlobals "_law_links" = some (some (.ref fLq)))
    (lLq : K.lookup fLq = some ⟨ocLq, odLq, .func (PySem.W.fnOf "_law_links" "_law_links" (defArgs sLkL) (defBody sLkL) (defScope sLkL) .none kVLq dcLq pmLq anLq cdLq ctLq), slLq⟩)
    (cLq : PySem.W.codeIn K cdLq "_law_links" = true)
    (kLq : PySem.W.keepIn K (.ref fLq) = true)
    (aSt : PySem.W.nsIn K mainGlobals "_law_steps" = some (some (.ref fSt)))
    (lSt : K.lookup fSt = some ⟨ocSt, odSt, .func (PySem.W.fnOf "_law_steps" "_law_steps" (defArgs sStp) (defBody sStp) (defScope sStp) .none kVSt dcSt pmSt anSt cdSt ctSt), slSt⟩)
    (cSt : PySem.W.codeIn K cdSt "_law_steps" = true)
    (kSt : PySem.W.keepIn K (.ref fSt) = true)
    (aTs : PySem.W.nsIn K mainGlobals "_law_tries" = some (some (.ref fTs)))
    (lTs : K.lookup fTs = some ⟨ocTs, odTs, .func (PySem.W.fnOf "_law_tries" "_law_tries" (defArgs sTrs) (defBody sTrs) (defScope sTrs) .none kVTs dcTs pmTs anTs cdTs ctTs), slTs⟩)
    (cTs : PySem.W.codeIn K cdTs "_law_tries" = true)
    (kTs : PySem.W.keepIn K (.ref fTs) = true)
    (aTl : PySem.W.nsIn K mainGlobals "_law_trials" = some (some (.ref fTl)))
    (lTl : K.lookup fTl = some ⟨ocTl, odTl, .func (PySem.W.fnOf "_law_trials" "_law_trials" (defArgs sTrl) (defBody sTrl) (defScope sTrl) .none kVTl dcTl pmTl anTl cdTl ctTl), slTl⟩)
    (cTl : PySem.W.codeIn K cdTl "_law_trials" = true)
    (kTl : PySem.W.keepIn K (.ref fTl) = true)
    (aBg : PySem.W.nsIn K mainGlobals "_law_big" = some (some (.ref fBg)))
    (lBg : K.lookup fBg = some ⟨ocBg, odBg, .func (PySem.W.fnOf "_law_big" "_law_big" (defArgs sBig) (defBody sBig) (defScope sBig) .none kVBg dcBg pmBg anBg cdBg ctBg), slBg⟩)
    (cBg : PySem.W.codeIn K cdBg "_law_big" = true)
    (kBg : PySem.W.keepIn K (.ref fBg) = true)
    (aLF : PySem.W.nsIn K mainGlobals "_law_fits" = some (some (.ref fLF)))
    (lLF : K.lookup fLF = some ⟨ocLF, odLF, .func (PySem.W.fnOf "_law_fits" "_law_fits" (defArgs sLFi) (defBody sLFi) (defScope sLFi) .none kVLF dcLF pmLF anLF cdLF ctLF), slLF⟩)
    (cLF : PySem.W.codeIn K cdLF "_law_fits" = true)
    (kLF : PySem.W.keepIn K (.ref fLF) = true)
    (aMs : PySem.W.nsIn K mainGlobals "_law_misread" = some (some (.ref fMs)))
    (lMs : K.lookup fMs = some ⟨ocMs, odMs, .func (PySem.W.fnOf "_law_misread" "_law_misread" (defArgs sMsr) (defBody sMsr) (defScope sMsr) .none kVMs dcMs pmMs anMs cdMs ctMs), slMs⟩)
    (cMs : PySem.W.codeIn K cdMs "_law_misread" = true)
    (kMs : PySem.W.keepIn K (.ref fMs) = true)
    (aOu : PySem.W.nsIn K mainGlobals "_law_outcome" = some (some (.ref fOu)))
    (lOu : K.lookup fOu = some ⟨ocOu, odOu, .func (PySem.W.fnOf "_law_outcome" "_law_outcome" (defArgs sOut) (defBody sOut) (defScope sOut) .none kVOu dcOu pmOu anOu cdOu ctOu), slOu⟩)
    (cOu : PySem.W.codeIn K cdOu "_law_outcome" = true)
    (kOu : PySem.W.keepIn K (.ref fOu) = true)
    (aDu : PySem.W.nsIn K mainGlobals "_law_due" = some (some (.ref fDu)))
    (lDu : K.lookup fDu = some ⟨ocDu, odDu, .func (PySem.W.fnOf "_law_due" "_law_due" (defArgs sDue) (defBody sDue) (defScope sDue) .none kVDu dcDu pmDu anDu cdDu ctDu), slDu⟩)
    (cDu : PySem.W.codeIn K cdDu "_law_due" = true)
    (kDu : PySem.W.keepIn K (.ref fDu) = true)
    (aCg : PySem.W.nsIn K mainGlobals "_law_changed" = some (some (.ref fCg)))
    (lCg : K.lookup fCg = some ⟨ocCg, odCg, .func (PySem.W.fnOf "_law_changed" "_law_changed" (defArgs sChg) (defBody sChg) (defScope sChg) .none kVCg dcCg pmCg anCg cdCg ctCg), slCg⟩)
    (cCg : PySem.W.codeIn K cdCg "_law_changed" = true)
    (kCg : PySem.W.keepIn K (.ref fCg) = true)
    (aRf : PySem.W.nsIn K mainGlobals "_law_refusals" = some (some (.ref fRf)))
    (lRf : K.lookup fRf = some ⟨ocRf, odRf, .func (PySem.W.fnOf "_law_refusals" "_law_refusals" (defArgs sRfs) (defBody sRfs) (defScope sRfs) .none kVRf dcRf pmRf anRf cdRf ctRf), slRf⟩)
    (cRf : PySem.W.codeIn K cdRf "_law_refusals" = true)
    (kRf : PySem.W.keepIn K (.ref fRf) = true)
    (aSa : PySem.W.nsIn K mainGlobals "_law_says" = some (some (.ref fSa)))
    (lSa : K.lookup fSa = some ⟨ocSa, odSa, .func (PySem.W.fnOf "_law_says" "_law_says" (defArgs sSay) (defBody sSay) (defScope sSay) .none kVSa dcSa pmSa anSa cdSa ctSa), slSa⟩)
    (cSa : PySem.W.codeIn K cdSa "_law_says" = true)
    (kSa : PySem.W.keepIn K (.ref fSa) = true)
    (aL : PySem.W.nsIn K mainGlobals "law" = some (some (.ref fL)))
    (lL : K.lookup fL = some ⟨ocL, odL, .func (PySem.W.fnOf "law" "law" (defArgs sLaw) (defBody sLaw) (defScope sLaw) .none kVL dcL pmL anL cdL ctL), slL⟩)
    (cL : PySem.W.codeIn K cdL "law" = true)
    (kL : PySem.W.keepIn K (.ref fL) = true)
    (opq : PySem.W.nsIn K cStatics "thirdparty.any" = some none)
    (nsup : PySem.W.nsIn K mainGlobals "super" = some none)
    (aEB : PySem.W.nsIn K mainGlobals "BadNumber" = some (some (.ref CEB)))
    (xEB : K.lookup CEB = some (excClassObj nmEB qEB CEB NEB bsEB [.ref BEB, .type "ValueError", .type "Exception", .type "BaseException", .type "object"] true snEB subEB abEB colEB ddEB m0EB m1EB m2EB m3EB m5EB "ValueError.__new__"))
    (saEB : PySem.W.findIn K (.ref CEB) "__setattr__" = some (some (.builtin "object.__setattr__")))
    (gaEB : PySem.W.findIn K (.ref CEB) "__getattribute__" = some (some (.builtin "BaseException.__getattribute__")))
    (ggEB : PySem.W.findIn K (.ref CEB) "__getattr__" = some none)
    (nbEB : PySem.W.findIn K (.ref CEB) "value" = some none)
    (iEB : PySem.W.findIn K (.ref CEB) "__init__" = some (some (.ref fiEB)))
    (tEB : PySem.W.typeIn K (.ref fiEB) = some (.type "function"))
    (lEB : K.lookup fiEB = some ⟨ocEB, odEB, .func (PySem.W.fnX "__init__" "BadNumber.__init__" (defArgs sErr) (defBody sErr) (defScope sErr) [("__class__", ccEB)] .none kVEB dcEB pmEB anEB (.ref cdEB) ctEB), slEB⟩)
    (coEB : PySem.W.codeIn K (.ref cdEB) "BadNumber.__init__" = true)
    (lkEB : K.lookup cdEB = some ⟨ckEB, dkEB, .fields vkEB, skEB⟩)
    (vkEBx : vkEB[2]? = some (.str flEB tfEB))
    (feEB : ((P.main.file : Str) == flEB) = true)
    (leEB : K.lookup ccEB = some ⟨ceEB, deEB, .cell (some (.ref CEB)), seEB⟩)
    (mrEB : PySem.W.mroIn K CEB (.ref CEB) = some true)
    (upEB : PySem.W.ks_superIn K CEB CEB "__init__" = some (some (.builtin "ValueError.__init__")))
    (svEB : PySem.W.subIn K (.ref CEB) (.type "ValueError") = some true)
    (kcEB : PySem.W.keepIn K (.ref CEB) = true)
    (ebEB : PySem.W.subIn K (.ref CEB) (.type "BaseException") = some true)
    (tyEB : PySem.W.typeIn K (.ref CEB) = some (.type "type"))
    (hdEB : PySem.W.hasDictIn K CEB = true)
    (ssEB : PySem.W.subIn K (.ref CEB) (.ref CEB) = some true)
    (aEN : PySem.W.nsIn K mainGlobals "BadName" = some (some (.ref CEN)))
    (xEN : K.lookup CEN = some (excClassObj nmEN qEN CEN NEN bsEN [.ref BEN, .type "ValueError", .type "Exception", .type "BaseException", .type "object"] true snEN subEN abEN colEN ddEN m0EN m1EN m2EN m3EN m5EN "ValueError.__new__"))
    (saEN : PySem.W.findIn K (.ref CEN) "__setattr__" = some (some (.builtin "object.__setattr__")))
    (gaEN : PySem.W.findIn K (.ref CEN) "__getattribute__" = some (some (.builtin "BaseException.__getattribute__")))
    (ggEN : PySem.W.findIn K (.ref CEN) "__getattr__" = some none)
    (nbEN : PySem.W.findIn K (.ref CEN) "name" = some none)
    (iEN : PySem.W.findIn K (.ref CEN) "__init__" = some (some (.ref fiEN)))
    (tEN : PySem.W.typeIn K (.ref fiEN) = some (.type "function"))
    (lEN : K.lookup fiEN = some ⟨ocEN, odEN, .func (PySem.W.fnX "__init__" "BadName.__init__" (defArgs sEN) (defBody sEN) (defScope sEN) [("__class__", ccEN)] .none kVEN dcEN pmEN anEN (.ref cdEN) ctEN), slEN⟩)
    (coEN : PySem.W.codeIn K (.ref cdEN) "BadName.__init__" = true)
    (lkEN : K.lookup cdEN = some ⟨ckEN, dkEN, .fields vkEN, skEN⟩)
    (vkENx : vkEN[2]? = some (.str flEN tfEN))
    (feEN : ((P.main.file : Str) == flEN) = true)
    (leEN : K.lookup ccEN = some ⟨ceEN, deEN, .cell (some (.ref CEN)), seEN⟩)
    (mrEN : PySem.W.mroIn K CEN (.ref CEN) = some true)
    (upEN : PySem.W.ks_superIn K CEN CEN "__init__" = some (some (.builtin "ValueError.__init__")))
    (svEN : PySem.W.subIn K (.ref CEN) (.type "ValueError") = some true)
    (kcEN : PySem.W.keepIn K (.ref CEN) = true)
    (ebEN : PySem.W.subIn K (.ref CEN) (.type "BaseException") = some true)
    (tyEN : PySem.W.typeIn K (.ref CEN) = some (.type "type"))
    (hdEN : PySem.W.hasDictIn K CEN = true)
    (ssEN : PySem.W.subIn K (.ref CEN) (.ref CEN) = some true)
    (aET : PySem.W.nsIn K mainGlobals "TakenName" = some (some (.ref CET)))
    (xET : K.lookup CET = some (excClassObj nmET qET CET NET bsET [.ref BET, .type "ValueError", .type "Exception", .type "BaseException", .type "object"] true snET subET abET colET ddET m0ET m1ET m2ET m3ET m5ET "ValueError.__new__"))
    (saET : PySem.W.findIn K (.ref CET) "__setattr__" = some (some (.builtin "object.__setattr__")))
    (gaET : PySem.W.findIn K (.ref CET) "__getattribute__" = some (some (.builtin "BaseException.__getattribute__")))
    (ggET : PySem.W.findIn K (.ref CET) "__getattr__" = some none)
    (nbET : PySem.W.findIn K (.ref CET) "name" = some none)
    (iET : PySem.W.findIn K (.ref CET) "__init__" = some (some (.ref fiET)))
    (tET : PySem.W.typeIn K (.ref fiET) = some (.type "function"))
    (lET : K.lookup fiET = some ⟨ocET, odET, .func (PySem.W.fnX "__init__" "TakenName.__init__" (defArgs sET) (defBody sET) (defScope sET) [("__class__", ccET)] .none kVET dcET pmET anET (.ref cdET) ctET), slET⟩)
    (coET : PySem.W.codeIn K (.ref cdET) "TakenName.__init__" = true)
    (lkET : K.lookup cdET = some ⟨ckET, dkET, .fields vkET, skET⟩)
    (vkETx : vkET[2]? = some (.str flET tfET))
    (feET : ((P.main.file : Str) == flET) = true)
    (leET : K.lookup ccET = some ⟨ceET, deET, .cell (some (.ref CET)), seET⟩)
    (mrET : PySem.W.mroIn K CET (.ref CET) = some true)
    (upET : PySem.W.ks_superIn K CET CET "__init__" = some (some (.builtin "ValueError.__init__")))
    (svET : PySem.W.subIn K (.ref CET) (.type "ValueError") = some true)
    (kcET : PySem.W.keepIn K (.ref CET) = true)
    (ebET : PySem.W.subIn K (.ref CET) (.type "BaseException") = some true)
    (tyET : PySem.W.typeIn K (.ref CET) = some (.type "type"))
    (hdET : PySem.W.hasDictIn K CET = true)
    (ssET : PySem.W.subIn K (.ref CET) (.ref CET) = some true)
    (aEP : PySem.W.nsIn K mainGlobals "NoPlace" = some (some (.ref CEP)))
    (xEP : K.lookup CEP = some (excClassObj nmEP qEP CEP NEP bsEP [.ref BEP, .type "ValueError", .type "Exception", .type "BaseException", .type "object"] true snEP subEP abEP colEP ddEP m0EP m1EP m2EP m3EP m5EP "ValueError.__new__"))
    (saEP : PySem.W.findIn K (.ref CEP) "__setattr__" = some (some (.builtin "object.__setattr__")))
    (gaEP : PySem.W.findIn K (.ref CEP) "__getattribute__" = some (some (.builtin "BaseException.__getattribute__")))
    (ggEP : PySem.W.findIn K (.ref CEP) "__getattr__" = some none)
    (nbEP : PySem.W.findIn K (.ref CEP) "place" = some none)
    (iEP : PySem.W.findIn K (.ref CEP) "__init__" = some (some (.ref fiEP)))
    (tEP : PySem.W.typeIn K (.ref fiEP) = some (.type "function"))
    (lEP : K.lookup fiEP = some ⟨ocEP, odEP, .func (PySem.W.fnX "__init__" "NoPlace.__init__" (defArgs sEP) (defBody sEP) (defScope sEP) [("__class__", ccEP)] .none kVEP dcEP pmEP anEP (.ref cdEP) ctEP), slEP⟩)
    (coEP : PySem.W.codeIn K (.ref cdEP) "NoPlace.__init__" = true)
    (lkEP : K.lookup cdEP = some ⟨ckEP, dkEP, .fields vkEP, skEP⟩)
    (vkEPx : vkEP[2]? = some (.str flEP tfEP))
    (feEP : ((P.main.file : Str) == flEP) = true)
    (leEP : K.lookup ccEP = some ⟨ceEP, deEP, .cell (some (.ref CEP)), seEP⟩)
    (mrEP : PySem.W.mroIn K CEP (.ref CEP) = some true)
    (upEP : PySem.W.ks_superIn K CEP CEP "__init__" = some (some (.builtin "ValueError.__init__")))
    (svEP : PySem.W.subIn K (.ref CEP) (.type "ValueError") = some true)
    (kcEP : PySem.W.keepIn K (.ref CEP) = true)
    (ebEP : PySem.W.subIn K (.ref CEP) (.type "BaseException") = some true)
    (tyEP : PySem.W.typeIn K (.ref CEP) = some (.type "type"))
    (hdEP : PySem.W.hasDictIn K CEP = true)
    (ssEP : PySem.W.subIn K (.ref CEP) (.ref CEP) = some true)
    (aEM : PySem.W.nsIn K mainGlobals "TooMany" = some (some (.ref CEM)))
    (xEM : K.lookup CEM = some (excClassObj nmEM qEM CEM NEM bsEM [.ref BEM, .type "ValueError", .type "Exception", .type "BaseException", .type "object"] true snEM subEM abEM colEM ddEM m0EM m1EM m2EM m3EM m5EM "ValueError.__new__"))
    (saEM : PySem.W.findIn K (.ref CEM) "__setattr__" = some (some (.builtin "object.__setattr__")))
    (gaEM : PySem.W.findIn K (.ref CEM) "__getattribute__" = some (some (.builtin "BaseException.__getattribute__")))
    (ggEM : PySem.W.findIn K (.ref CEM) "__getattr__" = some none)
    (nbEM : PySem.W.findIn K (.ref CEM) "count" = some none)
    (iEM : PySem.W.findIn K (.ref CEM) "__init__" = some (some (.ref fiEM)))
    (tEM : PySem.W.typeIn K (.ref fiEM) = some (.type "function"))
    (lEM : K.lookup fiEM = some ⟨ocEM, odEM, .func (PySem.W.fnX "__init__" "TooMany.__init__" (defArgs sEM) (defBody sEM) (defScope sEM) [("__class__", ccEM)] .none kVEM dcEM pmEM anEM (.ref cdEM) ctEM), slEM⟩)
    (coEM : PySem.W.codeIn K (.ref cdEM) "TooMany.__init__" = true)
    (lkEM : K.lookup cdEM = some ⟨ckEM, dkEM, .fields vkEM, skEM⟩)
    (vkEMx : vkEM[2]? = some (.str flEM tfEM))
    (feEM : ((P.main.file : Str) == flEM) = true)
    (leEM : K.lookup ccEM = some ⟨ceEM, deEM, .cell (some (.ref CEM)), seEM⟩)
    (mrEM : PySem.W.mroIn K CEM (.ref CEM) = some true)
    (upEM : PySem.W.ks_superIn K CEM CEM "__init__" = some (some (.builtin "ValueError.__init__")))
    (svEM : PySem.W.subIn K (.ref CEM) (.type "ValueError") = some true)
    (kcEM : PySem.W.keepIn K (.ref CEM) = true)
    (ebEM : PySem.W.subIn K (.ref CEM) (.type "BaseException") = some true)
    (tyEM : PySem.W.typeIn K (.ref CEM) = some (.type "type"))
    (hdEM : PySem.W.hasDictIn K CEM = true)
    (ssEM : PySem.W.subIn K (.ref CEM) (.ref CEM) = some true)
    (aES : PySem.W.nsIn K mainGlobals "NoSite" = some (some (.ref CES)))
    (xES : K.lookup CES = some (excClassObj nmES qES CES NES bsES [.ref BES, .type "ValueError", .type "Exception", .type "BaseException", .type "object"] true snES subES abES colES ddES m0ES m1ES m2ES m3ES m5ES "ValueError.__new__"))
    (saES : PySem.W.findIn K (.ref CES) "__setattr__" = some (some (.builtin "object.__setattr__")))
    (gaES : PySem.W.findIn K (.ref CES) "__getattribute__" = some (some (.builtin "BaseException.__getattribute__")))
    (ggES : PySem.W.findIn K (.ref CES) "__getattr__" = some none)
    (nbES : PySem.W.findIn K (.ref CES) "ring" = some none)
    (iES : PySem.W.findIn K (.ref CES) "__init__" = some (some (.ref fiES)))
    (tES : PySem.W.typeIn K (.ref fiES) = some (.type "function"))
    (lES : K.lookup fiES = some ⟨ocES, odES, .func (PySem.W.fnX "__init__" "NoSite.__init__" (defArgs sES) (defBody sES) (defScope sES) [("__class__", ccES)] .none kVES dcES pmES anES (.ref cdES) ctES), slES⟩)
    (coES : PySem.W.codeIn K (.ref cdES) "NoSite.__init__" = true)
    (lkES : K.lookup cdES = some ⟨ckES, dkES, .fields vkES, skES⟩)
    (vkESx : vkES[2]? = some (.str flES tfES))
    (feES : ((P.main.file : Str) == flES) = true)
    (leES : K.lookup ccES = some ⟨ceES, deES, .cell (some (.ref CES)), seES⟩)
    (mrES : PySem.W.mroIn K CES (.ref CES) = some true)
    (upES : PySem.W.ks_superIn K CES CES "__init__" = some (some (.builtin "ValueError.__init__")))
    (svES : PySem.W.subIn K (.ref CES) (.type "ValueError") = some true)
    (kcES : PySem.W.keepIn K (.ref CES) = true)
    (ebES : PySem.W.subIn K (.ref CES) (.type "BaseException") = some true)
    (tyES : PySem.W.typeIn K (.ref CES) = some (.type "type"))
    (hdES : PySem.W.hasDictIn K CES = true)
    (ssES : PySem.W.subIn K (.ref CES) (.ref CES) = some true)
    (n_len : PySem.W.nsIn K mainGlobals "len" = some none)
    (n_int : PySem.W.nsIn K mainGlobals "int" = some none)
    (n_bool : PySem.W.nsIn K mainGlobals "bool" = some none)
    (n_isinstance : PySem.W.nsIn K mainGlobals "isinstance" = some none)
    (n_range : PySem.W.nsIn K mainGlobals "range" = some none)
    (n_list : PySem.W.nsIn K mainGlobals "list" = some none)
    (n_tuple : PySem.W.nsIn K mainGlobals "tuple" = some none)
    (n_enumerate : PySem.W.nsIn K mainGlobals "enumerate" = some none)
    (n_zip : PySem.W.nsIn K mainGlobals "zip" = some none)
    (n_max : PySem.W.nsIn K mainGlobals "max" = some none)
    (n_min : PySem.W.nsIn K mainGlobals "min" = some none)
    (n_all : PySem.W.nsIn K mainGlobals "all" = some none)
    (n_any : PySem.W.nsIn K mainGlobals "any" = some none)
    (cPG : PySem.W.plainGet K CSite Str.empty = true)
    (cHD : PySem.W.hasDictIn K CSite = true)
    (cPO : PySem.W.plainOver K CSite = true)
    (cSA : PySem.W.findIn K (.ref CSite) "__setattr__" = some (some (.builtin "object.__setattr__")))
    (cN0 : PySem.W.findIn K (.ref CSite) "_rows" = some none)
    (cN1 : PySem.W.findIn K (.ref CSite) "_links" = some none)
    (cN2 : PySem.W.findIn K (.ref CSite) "_spots" = some none)
    (cN3 : PySem.W.findIn K (.ref CSite) "_places" = some none)
    (cN4 : PySem.W.findIn K (.ref CSite) "_tops" = some none)
    (cN5 : PySem.W.findIn K (.ref CSite) "size" = some none)
    (cN6 : PySem.W.findIn K (.ref CSite) "_told" = some none)
    (cN7 : PySem.W.findIn K (.ref CSite) "_limits" = some none)
    (cMK : PySem.W.makesIn K CSite = true)
    (cKP : PySem.W.keepIn K (.ref CSite) = true)
    (tLT : PySem.W.nsIn K mainGlobals "LETTERS" = some (some (.str letters tkLT)))
    (tLG : PySem.W.nsIn K mainGlobals "LONGEST_NAME" = some (some (.int 12 tkLG)))
    (tMP : PySem.W.nsIn K mainGlobals "MOST_PLACES" = some (some (.int 24 tkMP)))
    (tGR : PySem.W.nsIn K mainGlobals "GROUND" = some (some (.int (-1) tkGR)))
    (tPG : PySem.W.plainGet K CTrial Str.empty = true)
    (tHD : PySem.W.hasDictIn K CTrial = true)
    (tPO : PySem.W.plainOver K CTrial = true)
    (tSA : PySem.W.findIn K (.ref CTrial) "__setattr__" = some (some (.builtin "object.__setattr__")))
    (tMK : PySem.W.makesIn K CTrial = true)
    (tKP : PySem.W.keepIn K (.ref CTrial) = true)
    (tF0 : PySem.W.findIn K (.ref CTrial) "place" = some none)
    (tF1 : PySem.W.findIn K (.ref CTrial) "height" = some none)
    (tF2 : PySem.W.findIn K (.ref CTrial) "reached" = some none)
    (eCk : kVCk = .ref KDCk)
    (mCk : PySem.W.nsIn K KDCk "misreads" = some (some (.int 0 tkMs)))
    (uCk : PySem.W.nsIn K KDCk "sure" = some (some (.ref xDu)))
    (oCk : K.lookup xDu = some ⟨.type "tuple", ddU, .seq #[] nU, slU⟩)
    (sBP : PySem.W.subIn K (.ref CEB) (.ref CEP) = some false) :
    ∃ fd : FuncData, (∀ (s : Shared) (v : Value), BindsTo s fd ⟨[v], []⟩ [("_law_script", v)]) ∧ ∀ base : Heap, K.In base → base.Ns mainGlobals mg → FnOk P w K mg base CX0 9 fa fd ["_law_script"] (spLaw K) := by
  have e := hfa.symm.trans (PySem.W.mg_of X G aL)
  cases e
  have FN := fun_mk (st := sCkn) lN cN kN
  have bN := FN.binds (ps := ["name"]) fun _ _ _ _ _ _ us hl => match us, hl with | [_], _ => rfl
  have FK := fun_mk (st := sChk) lK cK kK
  have bK := FK.binds (ps := ["number"]) fun _ _ _ _ _ _ us hl => match us, hl with | [_], _ => rfl
  have FCr := fun_mk (st := sCro) lCr cCr kCr
  have bCr := FCr.binds (ps := ["rows"]) fun _ _ _ _ _ _ us hl => match us, hl with | [_], _ => rfl
  have FCu := fun_mk (st := sCnu) lCu cCu kCu
  have bCu := FCu.binds (ps := ["top", "slope", "spans"]) fun _ _ _ _ _ _ us hl => match us, hl with | [_, _, _], _ => rfl
  have FCl := fun_mk (st := sCli) lCl cCl kCl
  have bCl := FCl.binds (ps := ["links", "size"]) fun _ _ _ _ _ _ us hl => match us, hl with | [_, _], _ => rfl
  have FSo := fun_mk (st := sSpots) lSo cSo kSo
  have bSo := FSo.binds (ps := ["rows"]) fun _ _ _ _ _ _ us hl => match us, hl with | [_], _ => rfl
  have FTo := fun_mk (st := sTops) lTo cTo kTo
  have bTo := FTo.binds (ps := ["rows"]) fun _ _ _ _ _ _ us hl => match us, hl with | [_], _ => rfl
  have FTd := fun_mk (st := sTold) lTd cTd kTd
  have bTd := FTd.binds (ps := ["rows", "tops", "links"]) fun _ _ _ _ _ _ us hl => match us, hl with | [_, _, _], _ => rfl
  have FGr := fun_mk (st := sGrd) lGr cGr kGr
  have bGr := FGr.binds (ps := ["tops"]) fun _ _ _ _ _ _ us hl => match us, hl with | [_], _ => rfl
  have FSl := fun_mk (st := sSlp) lSl cSl kSl
  have bSl := FSl.binds (ps := ["rows"]) fun _ _ _ _ _ _ us hl => match us, hl with | [_], _ => rfl
  have FLk := fun_mk (st := sLnk) lLk cLk kLk
  have bLk := FLk.binds (ps := ["links"]) fun _ _ _ _ _ _ us hl => match us, hl with | [_], _ => rfl
  have FFi := fun_mk (st := sFnd) lFi cFi kFi
  have bFi := FFi.binds (ps := ["size", "told"]) fun _ _ _ _ _ _ us hl => match us, hl with | [_, _], _ => rfl
  have FRb := fun_mk (st := sRgb) lRb cRb kRb
  have bRb := FRb.binds (ps := ["node", "before"]) fun _ _ _ _ _ _ us hl => match us, hl with | [_, _], _ => rfl
  have FLs := fun_mk (st := sLst) lLs cLs kLs
  have bLs := FLs.binds (ps := ["size", "told"]) fun _ _ _ _ _ _ us hl => match us, hl with | [_, _], _ => rfl
  have FFs := fun_mk (st := sFst) lFs cFs kFs
  have bFs := FFs.binds (ps := ["told", "first", "second"]) fun _ _ _ _ _ _ us hl => match us, hl with | [_, _, _], _ => rfl
  have FSb := fun_mk (st := sSby) lSb cSb kSb
  have bSb := FSb.binds (ps := ["row", "step", "onward"]) fun _ _ _ _ _ _ us hl => match us, hl with | [_, _, _], _ => rfl
  have FMi : FunD K "__init__" "Site.__init__" (defArgs sSini) (defBody sSini) (defScope sSini) [.ref aDf] [] fMi _ := ⟨⟨ocMi, odMi, .ref DTMi, kVMi, dcMi, pmMi, anMi, cdMi, ctMi, slMi, rfl, lMi, cMi, .inr ⟨by simp, DTMi, _, [.ref aDf], xnMi, rfl, dMi, rfl, .cons (rfl) (.nil)⟩, .inl rfl⟩, kMi⟩
  obtain ⟨dsMi0, vdMi0, bMi0⟩ := FMi.binds1 (ps := ["self", "walls", "links"]) 2 0 (by simp) rfl fun T kV doc pm an cdv ct us its hu hi => match us, hu, its, hi with | [_, _], _, [_], _ => ⟨_, rfl, rfl⟩
  obtain ⟨dsMi1, vdMi1, bMi1⟩ := FMi.binds1 (ps := ["self", "walls", "links"]) 3 1 (by simp) rfl fun T kV doc pm an cdv ct us its hu hi => match us, hu, its, hi with | [_, _, _], _, [_], _ => ⟨_, rfl, rfl⟩
  cases vdMi1
  have FMf := fun_mk (st := sSfi) lMf cMf kMf
  have bMf := FMf.binds (ps := ["self", "heights"]) fun _ _ _ _ _ _ us hl => match us, hl with | [_, _], _ => rfl
  have FMc := fun_mk (st := sCp) lMc cMc kMc
  have bMc := FMc.binds (ps := ["self", "place"]) fun _ _ _ _ _ _ us hl => match us, hl with | [_, _], _ => rfl
  have FTi := fun_mk (st := sTini) lTi cTi kTi
  have bTi := FTi.binds (ps := ["self", "place", "height", "reached"]) fun _ _ _ _ _ _ us hl => match us, hl with | [_, _, _, _], _ => rfl
  have FPs := fun_mk (st := sCps) lPs cPs kPs
  have bPs := FPs.binds (ps := ["site", "trials"]) fun _ _ _ _ _ _ us hl => match us, hl with | [_, _], _ => rfl
  have FTg := fun_mk (st := sAgr) lTg cTg kTg
  have bTg := FTg.binds (ps := ["self", "heights"]) fun _ _ _ _ _ _ us hl => match us, hl with | [_, _], _ => rfl
  have FMq := fun_mk (st := sMis) lMq cMq kMq
  have bMq := FMq.binds (ps := ["trials", "heights"]) fun _ _ _ _ _ _ us hl => match us, hl with | [_, _], _ => rfl
  have FCk := fun_mk (st := sCks) lCk cCk kCk
  have bCk := trivial
  have FB := fun_mk (st := sBox) lB cB kB
  have bB := FB.binds (ps := ["_law_script"]) fun _ _ _ _ _ _ us hl => match us, hl with | [_], _ => rfl
  have FT := fun_mk (st := sTake) lT cT kT
  have bT := FT.binds (ps := ["_law_box_here", "_law_size"]) fun _ _ _ _ _ _ us hl => match us, hl with | [_, _], _ => rfl
  have FTr := fun_mk (st := sTru) lTr cTr kTr
  have bTr := FTr.binds (ps := ["_law_box_here", "_law_top", "_law_slope", "_law_spans"]) fun _ _ _ _ _ _ us hl => match us, hl with | [_, _, _, _], _ => rfl
  have FSn := fun_mk (st := sSpn) lSn cSn kSn
  have bSn := FSn.binds (ps := ["_law_box_here", "_law_tall"]) fun _ _ _ _ _ _ us hl => match us, hl with | [_, _], _ => rfl
  have FSc := fun_mk (st := sSpc) lSc cSc kSc
  have bSc := FSc.binds (ps := ["_law_box_here", "_law_many", "_law_tall"]) fun _ _ _ _ _ _ us hl => match us, hl with | [_, _, _], _ => rfl
  have FLq := fun_mk (st := sLkL) lLq cLq kLq
  have bLq := FLq.binds (ps := ["_law_box_here", "_law_truth_here", "_law_room"]) fun _ _ _ _ _ _ us hl => match us, hl with | [_, _, _], _ => rfl
  have FSt := fun_mk (st := sStp) lSt cSt kSt
  have bSt := FSt.binds (ps := ["_law_shuts", "_law_links_here"]) fun _ _ _ _ _ _ us hl => match us, hl with | [_, _], _ => rfl
  have FTs := fun_mk (st := sTrs) lTs cTs kTs
  have bTs := FTs.binds (ps := ["_law_box_here", "_law_truth_here", "_law_count", "_law_tall"]) fun _ _ _ _ _ _ us hl => match us, hl with | [_, _, _, _], _ => rfl
  have FTl := fun_mk (st := sTrl) lTl cTl kTl
  have bTl := FTl.binds (ps := ["_law_rows"]) fun _ _ _ _ _ _ us hl => match us, hl with | [_], _ => rfl
  have FBg := fun_mk (st := sBig) lBg cBg kBg
  have bBg := FBg.binds (ps := ["_law_box_here", "_law_many", "_law_count"]) fun _ _ _ _ _ _ us hl => match us, hl with | [_, _, _], _ => rfl
  have FLF := fun_mk (st := sLFi) lLF cLF kLF
  have bLF := FLF.binds (ps := ["_law_steps_here", "_law_heights"]) fun _ _ _ _ _ _ us hl => match us, hl with | [_, _], _ => rfl
  have FMs := fun_mk (st := sMsr) lMs cMs kMs
  have bMs := FMs.binds (ps := ["_law_rows", "_law_heights"]) fun _ _ _ _ _ _ us hl => match us, hl with | [_, _], _ => rfl
  have FOu := fun_mk (st := sOut) lOu cOu kOu
  have bOu := FOu.binds (ps := ["_law_site", "_law_trials_here", "_law_heights", "_law_pins", "_law_spare"]) fun _ _ _ _ _ _ us hl => match us, hl with | [_, _, _, _, _], _ => rfl
  have FDu := fun_mk (st := sDue) lDu cDu kDu
  have bDu := FDu.binds (ps := ["_law_steps_here", "_law_rows", "_law_fixed", "_law_heights", "_law_spare", "_law_many"]) fun _ _ _ _ _ _ us hl => match us, hl with | [_, _, _, _, _, _], _ => rfl
  have FCg := fun_mk (st := sChg) lCg cCg kCg
  have bCg := FCg.binds (ps := ["_law_box_here", "_law_truth_here"]) fun _ _ _ _ _ _ us hl => match us, hl with | [_, _], _ => rfl
  have FRf := fun_mk (st := sRfs) lRf cRf kRf
  have bRf := FRf.binds (ps := ["_law_site", "_law_rows", "_law_fixed", "_law_truth_here", "_law_odd", "_law_at", "_law_below"]) fun _ _ _ _ _ _ us hl => match us, hl with | [_, _, _, _, _, _, _], _ => rfl
  have FSa := fun_mk (st := sSay) lSa cSa kSa
  have bSa := FSa.binds (ps := ["_law_told", "_law_due_here"]) fun _ _ _ _ _ _ us hl => match us, hl with | [_, _], _ => rfl
  have FL := fun_mk (st := sLaw) lL cL kL
  have bL := FL.binds (ps := ["_law_script"]) fun _ _ _ _ _ _ us hl => match us, hl with | [_], _ => rfl
  have OEB : OexC K CEB := ⟨⟨nmEB, qEB, NEB, bsEB, _, snEB, subEB, abEB, colEB, ddEB, m0EB, m1EB, m2EB, m3EB, m5EB, xEB, by rfl⟩, saEB, ebEB, tyEB, kcEB⟩
  have TEB : ErrTxt P K mg CEB fiEB cdEB ccEB "BadNumber.__init__" sErr := {
    oex := OEB
    iC := iEB
    tI := tEB
    fn := ⟨_, _, _, _, _, _, _, _, lEB⟩
    code := coEB
    file := ⟨_, vkEB, flEB, tfEB, lkEB, rfl, vkEBx, feEB⟩
    cell := ⟨_, leEB, rfl⟩
    self := mrEB
    opaque_ := opq
    up := upEB
    isVE := svEB
    top := htop
    noSup := PySem.W.mg_none_of X G nsup }
  have REB : ∀ base, ErrOk P w K mg base "BadNumber" CEB "value" okInt := fun base => by
    obtain ⟨fd, hfd, hb⟩ := err_int (w := w) (base := base) TEB rfl rfl (nscope_by (by decide +kernel)) (fun _ _ _ _ _ _ _ us hl => match us, hl with | [_, _], _ => rfl) rfl rfl rfl (by decide) (by decide) (by decide) nbEB
    exact ⟨OEB, ⟨gaEB, ggEB, ebEB, hdEB⟩, PySem.W.mg_of X G aEB, nbEB, PySem.W.exm_ref ebEB hdEB tyEB ssEB, ⟨_, fd, iEB, tEB, hfd, hb⟩⟩
  have OEN : OexC K CEN := ⟨⟨nmEN, qEN, NEN, bsEN, _, snEN, subEN, abEN, colEN, ddEN, m0EN, m1EN, m2EN, m3EN, m5EN, xEN, by rfl⟩, saEN, ebEN, tyEN, kcEN⟩
  have TEN : ErrTxt P K mg CEN fiEN cdEN ccEN "BadName.__init__" sEN := {
    oex := OEN
    iC := iEN
    tI := tEN
    fn := ⟨_, _, _, _, _, _, _, _, lEN⟩
    code := coEN
    file := ⟨_, vkEN, flEN, tfEN, lkEN, rfl, vkENx, feEN⟩
    cell := ⟨_, leEN, rfl⟩
    self := mrEN
    opaque_ := opq
    up := upEN
    isVE := svEN
    top := htop
    noSup := PySem.W.mg_none_of X G nsup }
  have REN : ∀ base, ErrOk P w K mg base "BadName" CEN "name" okTxt := fun base => by
    obtain ⟨fd, hfd, hb⟩ := err_txt (w := w) (base := base) TEN rfl rfl (nscope_by (by decide +kernel)) (fun _ _ _ _ _ _ _ us hl => match us, hl with | [_, _], _ => rfl) rfl rfl rfl (by decide) (by decide) (by decide) nbEN
    exact ⟨OEN, ⟨gaEN, ggEN, ebEN, hdEN⟩, PySem.W.mg_of X G aEN, nbEN, PySem.W.exm_ref ebEN hdEN tyEN ssEN, ⟨_, fd, iEN, tEN, hfd, hb⟩⟩
  have OET : OexC K CET := ⟨⟨nmET, qET, NET, bsET, _, snET, subET, abET, colET, ddET, m0ET, m1ET, m2ET, m3ET, m5ET, xET, by rfl⟩, saET, ebET, tyET, kcET⟩
  have TET : ErrTxt P K mg CET fiET cdET ccET "TakenName.__init__" sET := {
    oex := OET
    iC := iET
    tI := tET
    fn := ⟨_, _, _, _, _, _, _, _, lET⟩
    code := coET
    file := ⟨_, vkET, flET, tfET, lkET, rfl, vkETx, feET⟩
    cell := ⟨_, leET, rfl⟩
    self := mrET
    opaque_ := opq
    up := upET
    isVE := svET
    top := htop
    noSup := PySem.W.mg_none_of X G nsup }
  have RET : ∀ base, ErrOk P w K mg base "TakenName" CET "name" okTxt := fun base => by
    obtain ⟨fd, hfd, hb⟩ := err_txt (w := w) (base := base) TET rfl rfl (nscope_by (by decide +kernel)) (fun _ _ _ _ _ _ _ us hl => match us, hl with | [_, _], _ => rfl) rfl rfl rfl (by decide) (by decide) (by decide) nbET
    exact ⟨OET, ⟨gaET, ggET, ebET, hdET⟩, PySem.W.mg_of X G aET, nbET, PySem.W.exm_ref ebET hdET tyET ssET, ⟨_, fd, iET, tET, hfd, hb⟩⟩
  have OEP : OexC K CEP := ⟨⟨nmEP, qEP, NEP, bsEP, _, snEP, subEP, abEP, colEP, ddEP, m0EP, m1EP, m2EP, m3EP, m5EP, xEP, by rfl⟩, saEP, ebEP, tyEP, kcEP⟩
  have TEP : ErrTxt P K mg CEP fiEP cdEP ccEP "NoPlace.__init__" sEP := {
    oex := OEP
    iC := iEP
    tI := tEP
    fn := ⟨_, _, _, _, _, _, _, _, lEP⟩
    code := coEP
    file := ⟨_, vkEP, flEP, tfEP, lkEP, rfl, vkEPx, feEP⟩
    cell := ⟨_, leEP, rfl⟩
    self := mrEP
    opaque_ := opq
    up := upEP
    isVE := svEP
    top := htop
    noSup := PySem.W.mg_none_of X G nsup }
  have REP : ∀ base, ErrOk P w K mg base "NoPlace" CEP "place" okInt := fun base => by
    obtain ⟨fd, hfd, hb⟩ := err_int (w := w) (base := base) TEP rfl rfl (nscope_by (by decide +kernel)) (fun _ _ _ _ _ _ _ us hl => match us, hl with | [_, _], _ => rfl) rfl rfl rfl (by decide) (by decide) (by decide) nbEP
    exact ⟨OEP, ⟨gaEP, ggEP, ebEP, hdEP⟩, PySem.W.mg_of X G aEP, nbEP, PySem.W.exm_ref ebEP hdEP tyEP ssEP, ⟨_, fd, iEP, tEP, hfd, hb⟩⟩
  have OEM : OexC K CEM := ⟨⟨nmEM, qEM, NEM, bsEM, _, snEM, subEM, abEM, colEM, ddEM, m0EM, m1EM, m2EM, m3EM, m5EM, xEM, by rfl⟩, saEM, ebEM, tyEM, kcEM⟩
  have TEM : ErrTxt P K mg CEM fiEM cdEM ccEM "TooMany.__init__" sEM := {
    oex := OEM
    iC := iEM
    tI := tEM
    fn := ⟨_, _, _, _, _, _, _, _, lEM⟩
    code := coEM
    file := ⟨_, vkEM, flEM, tfEM, lkEM, rfl, vkEMx, feEM⟩
    cell := ⟨_, leEM, rfl⟩
    self := mrEM
    opaque_ := opq
    up := upEM
    isVE := svEM
    top := htop
    noSup := PySem.W.mg_none_of X G nsup }
  have REM : ∀ base, ErrOk P w K mg base "TooMany" CEM "count" okInt := fun base => by
    obtain ⟨fd, hfd, hb⟩ := err_int (w := w) (base := base) TEM rfl rfl (nscope_by (by decide +kernel)) (fun _ _ _ _ _ _ _ us hl => match us, hl with | [_, _], _ => rfl) rfl rfl rfl (by decide) (by decide) (by decide) nbEM
    exact ⟨OEM, ⟨gaEM, ggEM, ebEM, hdEM⟩, PySem.W.mg_of X G aEM, nbEM, PySem.W.exm_ref ebEM hdEM tyEM ssEM, ⟨_, fd, iEM, tEM, hfd, hb⟩⟩
  have OES : OexC K CES := ⟨⟨nmES, qES, NES, bsES, _, snES, subES, abES, colES, ddES, m0ES, m1ES, m2ES, m3ES, m5ES, xES, by rfl⟩, saES, ebES, tyES, kcES⟩
  have TES : ErrTxt P K mg CES fiES cdES ccES "NoSite.__init__" sES := {
    oex := OES
    iC := iES
    tI := tES
    fn := ⟨_, _, _, _, _, _, _, _, lES⟩
    code := coES
    file := ⟨_, vkES, flES, tfES, lkES, rfl, vkESx, feES⟩
    cell := ⟨_, leES, rfl⟩
    self := mrES
    opaque_ := opq
    up := upES
    isVE := svES
    top := htop
    noSup := PySem.W.mg_none_of X G nsup }
  have RES : ∀ base, ErrOkL P w K mg base "NoSite" CES "ring" := fun base => by
    obtain ⟨fd, hfd, hb⟩ := err_lst (w := w) (base := base) TES rfl rfl (nscope_by (by decide +kernel)) (fun _ _ _ _ _ _ _ us hl => match us, hl with | [_, _], _ => rfl) rfl rfl rfl (by decide) (by decide) (by decide) nbES rfl (PySem.W.mg_none_of X G n_list)
    exact ⟨OES, ⟨gaES, ggES, ebES, hdES⟩, PySem.W.mg_of X G aES, nbES, PySem.W.exm_ref ebES hdES tyES ssES, ⟨_, fd, iES, tES, hfd, hb⟩⟩
  exact ⟨PySem.W.fnOf "law" "law" (defArgs sLaw) (defBody sLaw) (defScope sLaw) .none kVL dcL pmL anL cdL ctL, fun s v => .of_eq rfl, fun base _ _ => by
    have cl : Cls K CSite := ⟨cPG, cHD, cPO, cSA⟩
    have na : ∀ m ∈ (["_rows", "_links", "_spots", "_places", "_tops", "size", "_told", "_limits"] : List Str), NoAttr K CSite m := fun m hm => by
      simp only [List.mem_cons, List.not_mem_nil, or_false] at hm
      rcases hm with rfl | rfl | rfl | rfl | rfl | rfl | rfl | rfl
      · exact cN0
      · exact cN1
      · exact cN2
      · exact cN3
      · exact cN4
      · exact cN5
      · exact cN6
      · exact cN7
    have bt : BoxTxt K mg := ⟨PySem.W.mg_none_of X G n_len, PySem.W.mg_none_of X G n_int⟩
    have TN : NameTxt K mg := { letters := ⟨_, PySem.W.mg_of X G tLT⟩, longest := ⟨_, PySem.W.mg_of X G tLG⟩, len := PySem.W.mg_none_of X G n_len }
    have CT : CkTxt mg fK fN fCu := { chk := PySem.W.mg_of X G aK, ckn := PySem.W.mg_of X G aN, cnu := PySem.W.mg_of X G aCu }
    have ET : EdTxt mg := { ground := ⟨_, PySem.W.mg_of X G tGR⟩, enumerate := PySem.W.mg_none_of X G n_enumerate }
    have TT : ToTxt mg fGr fSl fLk := { grd := PySem.W.mg_of X G aGr, slp := PySem.W.mg_of X G aSl, lnk := PySem.W.mg_of X G aLk }
    have FT2 : FiTxt mg fRb := { ground := ⟨_, PySem.W.mg_of X G tGR⟩, range := PySem.W.mg_none_of X G n_range, rgb := PySem.W.mg_of X G aRb }
    have LS : LsTxt mg fFs fSb := { ground := ⟨_, PySem.W.mg_of X G tGR⟩, range := PySem.W.mg_none_of X G n_range, list := PySem.W.mg_none_of X G n_list, zip := PySem.W.mg_none_of X G n_zip, fst := PySem.W.mg_of X G aFs, sby := PySem.W.mg_of X G aSb }
    have ST : STxt mg := { len := PySem.W.mg_none_of X G n_len, range := PySem.W.mg_none_of X G n_range }
    have SI : SiTxt K mg CSite fCr fSo fTo fCl fTd fFi fLs := { cl := cl, na := na, most := ⟨_, PySem.W.mg_of X G tMP⟩, tuple := PySem.W.mg_none_of X G n_tuple, enumerate := PySem.W.mg_none_of X G n_enumerate, len := PySem.W.mg_none_of X G n_len, cro := PySem.W.mg_of X G aCr, spots := PySem.W.mg_of X G aSo, tops := PySem.W.mg_of X G aTo, cli := PySem.W.mg_of X G aCl, told := PySem.W.mg_of X G aTd, ring := PySem.W.mg_of X G aFi, least := PySem.W.mg_of X G aLs }
    have GCu : FnOk P w K mg base (L2.CX P w) 5 fCu _ ["top", "slope", "spans"] (spCnu K (⟨CEN, CET, CEB, CEM, CEN, CEP, CES⟩ : Errs)) := ok_cnu (w := w) (base := base) (C := (⟨CEN, CET, CEB, CEM, CEN, CEP, CES⟩ : Errs)) FCu (REB base) FK bK CT
    have GCr : FnOk P w K mg base (L2.CX P w) 6 fCr _ ["rows"] (spCro K (⟨CEN, CET, CEB, CEM, CEN, CEP, CES⟩ : Errs)) := ok_cro (w := w) (base := base) (C := (⟨CEN, CET, CEB, CEM, CEN, CEP, CES⟩ : Errs)) FCr (REN base) (RET base) (REB base) FK bK FN bN FCu bCu CT TN
    have GCl : FnOk P w K mg base (L2.CX P w) 4 fCl _ ["links", "size"] (spCli K (⟨CEN, CET, CEB, CEM, CEN, CEP, CES⟩ : Errs)) := ok_cli (w := w) (base := base) (C := (⟨CEN, CET, CEB, CEM, CEN, CEP, CES⟩ : Errs)) FCl (REP base)
    have GSo : FnOk P w K mg base CX0 1 fSo _ ["rows"] (spSpots K) := ok_spots FSo ST
    have GTo : FnOk P w K mg base CX0 1 fTo _ ["rows"] (spTops K) := ok_tops FTo ST
    have GGr : FnOk P w K mg base CX0 1 fGr _ ["tops"] spGrd := ok_grd FGr ET
    have GSl : FnOk P w K mg base CX0 1 fSl _ ["rows"] (spSlp K) := ok_slp FSl
    have GLk : FnOk P w K mg base CX0 1 fLk _ ["links"] (spLnk K) := ok_lnk FLk
    have GTd : FnOk P w K mg base CX0 2 fTd _ ["rows", "tops", "links"] (spTold K) := ok_told FTd TT GGr FGr bGr GSl FSl bSl GLk FLk bLk
    have GRb : FnOk P w K mg base CX0 1 fRb _ ["node", "before"] spRgb := ok_rgb2 FRb { b_len := PySem.W.mg_none_of X G n_len, b_range := PySem.W.mg_none_of X G n_range }
    have GFi : FnOk P w K mg base CX0 2 fFi _ ["size", "told"] spFnd2 := ok_fnd2 FFi FT2 GRb FRb bRb
    have GLs : FnOk P w K mg base CX0 2 fLs _ ["size", "told"] spLst := ok_lst FLs LS FFs bFs FSb bSb
    have GI0 : FnOk P w K mg base (L2.CX P w) 7 fMi _ ["self", "walls", "links"] (spSini2 K (⟨CEN, CET, CEB, CEM, CEN, CEP, CES⟩ : Errs) CSite) := ok_sini2 (w := w) (base := base) (C := (⟨CEN, CET, CEB, CEM, CEN, CEP, CES⟩ : Errs)) FMi (REM base) (RES base) GCr FCr bCr GSo FSo bSo GTo FTo bTo GCl FCl bCl GTd FTd bTd GFi FFi bFi GLs FLs bLs SI
    have GI2 : FnR P w K mg base (L2.CX P w) 7 fMi (spSini2 K (⟨CEN, CET, CEB, CEM, CEN, CEP, CES⟩ : Errs) CSite) := Own.fnr0 GI0 bMi1
    have MK : Mk K CSite fMi := ⟨cMK, aMi, iMi, cKP⟩
    have ME : MeTxt K mg CSite := { cl := cl, na := na, ground := ⟨_, PySem.W.mg_of X G tGR⟩, b_range := PySem.W.mg_none_of X G n_range }
    have GFi2 := Own.fnr0 (ok_sfi (P := P) (w := w) (base := base) FMf { cl := cl, na := na, b_len := PySem.W.mg_none_of X G n_len, b_all := PySem.W.mg_none_of X G n_all }) bMf
    have MFi2 : Meth K CSite "fits" fMf := ⟨aMf, iMf, kMf⟩
    have GB : FnOk P w K mg base CX0 1 fB _ ["_law_script"] (spBox K) := ok_box FB bt
    have GT : FnOk P w K mg base CX0 1 fT _ ["_law_box_here", "_law_size"] spTake := ok_take FT bt
    have TU : TruTxt mg fT := { take := PySem.W.mg_of X G aT, b_max := PySem.W.mg_none_of X G n_max, b_min := PySem.W.mg_none_of X G n_min, b_int := PySem.W.mg_none_of X G n_int }
    have GTr : FnOk P w K mg base CX0 2 fTr _ ["_law_box_here", "_law_top", "_law_slope", "_law_spans"] (spTru K) := ok_tru FTr GT FT bT TU
    have GSn : FnOk P w K mg base CX0 2 fSn _ ["_law_box_here", "_law_tall"] spSpn := ok_spn FSn GT FT bT TU
    have GSc : FnOk P w K mg base CX0 3 fSc _ ["_law_box_here", "_law_many", "_law_tall"] (spSpc K) := ok_spc FSc GT FT bT GTr FTr bTr GSn FSn bSn { take := PySem.W.mg_of X G aT, truth := PySem.W.mg_of X G aTr, span := PySem.W.mg_of X G aSn, b_range := PySem.W.mg_none_of X G n_range, b_tuple := PySem.W.mg_none_of X G n_tuple }
    have LK : LkTxt mg fT := { take := PySem.W.mg_of X G aT, b_range := PySem.W.mg_none_of X G n_range, b_len := PySem.W.mg_none_of X G n_len }
    have GLq : FnOk P w K mg base CX0 2 fLq _ ["_law_box_here", "_law_truth_here", "_law_room"] (spLkL K) := ok_lkL FLq GT FT bT LK
    have GSt : FnOk P w K mg base CX0 1 fSt _ ["_law_shuts", "_law_links_here"] (spStp K) := ok_stp FSt LK
    have GLF : FnOk P w K mg base CX0 1 fLF _ ["_law_steps_here", "_law_heights"] spLFi := ok_lfi FLF
    have TT : TriTxt K mg CTrial := { tri := PySem.W.mg_of X G aCT, cl := ⟨tPG, tHD, tPO, tSA⟩, nP := tF0, nH := tF1, nR := tF2 }
    have GTi := Own.fnr0 (ok_tini (P := P) (w := w) (base := base) FTi TT) bTi
    have MKT : Mk K CTrial fTi := ⟨tMK, aTi, iTi, tKP⟩
    have GCp2 := Own.fnr0 (ok_cpx (P := P) (w := w) (base := base) (C := (⟨CEN, CET, CEB, CEM, CEN, CEP, CES⟩ : Errs)) FMc (REP base) ME) bMc
    have MCp2 : Meth K CSite "check_place" fMc := ⟨aMc, iMc, kMc⟩
    have GPs : FnOk P w K mg base (L2.CX P w) 5 fPs _ ["site", "trials"] (spCpsX K (⟨CEN, CET, CEB, CEM, CEN, CEP, CES⟩ : Errs) CSite CTrial) := ok_cpsx FPs GCp2 MCp2 ME TT
    have GAg2 := Own.fnr0 (ok_agr (P := P) (w := w) (base := base) (CP := CEP) FTg (REP base) TT (PySem.W.mg_none_of X G n_len)) bTg
    have MAg2 : Meth K CTrial "agrees" fTg := ⟨aTg, iTg, kTg⟩
    have GMq : FnOk P w K mg base (L2.CX P w) 5 fMq _ ["trials", "heights"] (spMis K CEP CTrial) := ok_mis FMq GAg2 MAg2 { tri := PySem.W.mg_of X G aCT, b_enum := PySem.W.mg_none_of X G n_enumerate, cl := TT.cl }
    have GK : FnOk P w K mg base (L2.CX P w) 4 fK _ ["number"] (spChk CEB) := ok_chk FK (REB base)
    subst eCk
    have FCk2 : FunD K "check_shape" "check_shape" (defArgs sCks) (defBody sCks) (defScope sCks) [] [("misreads", .int 0), ("sure", .ref xDu)] fCk _ := ⟨⟨ocCk, odCk, .none, .ref KDCk, dcCk, pmCk, anCk, cdCk, ctCk, slCk, rfl, lCk, cCk, .inl ⟨rfl, rfl⟩, .inr ⟨KDCk, rfl, fun q hq => by
      simp only [List.mem_cons, List.not_mem_nil, or_false] at hq
      rcases hq with rfl | rfl
      · exact ⟨_, mCk, ⟨_, rfl⟩⟩
      · exact ⟨_, uCk, rfl⟩⟩⟩, kCk⟩
    obtain ⟨dsC, vC0, bC0⟩ := FCk2.binds0 (ps := ["site", "trials", "heights", "misreads", "sure"]) 3 (by simp) rfl fun D doc pm an cdv ct us ks hu hk => match us, hu, ks, hk with | [_, _, _], _, [_, _], _ => ⟨_, _, _, _, _, _, rfl, rfl, ⟨_, _, _, _, _, _, rfl, rfl, rfl⟩⟩
    obtain ⟨mvC, bCK⟩ := FCk2.kbinds0 (ps := ["site", "trials", "heights", "misreads", "sure"]) 3 ["sure", "misreads"] [] gKw (by simp) (fun q hq => nomatch hq) (fun h1 h2 h3 => gKw_rel h1 h2 h3) fun D doc pm an cdv ct us mv ws hu hm hw => match us, hu, mv, hm, ws, hw with | [_, _, _], _, [], _, [_, _], _ => rfl
    have GCk2 : FnOk P w K mg base (L2.CX P w) 6 fCk _ ["site", "trials", "heights", "misreads", "sure"] (spCks K (⟨CEN, CET, CEB, CEM, CEN, CEP, CES⟩ : Errs) CSite CTrial) := ok_cks FCk2 GPs FPs bPs GK FK bK GMq FMq bMq GFi2 MFi2 { cps := PySem.W.mg_of X G aPs, chk := PySem.W.mg_of X G aK, mis := PySem.W.mg_of X G aMq, cl := cl, b_len := PySem.W.mg_none_of X G n_len }
    have hE : ∀ H : Hp, SqT K H xDu [] := fun H => .inr ⟨_, #[], nU, oCk, rfl, rfl, by show 0 ≤ sizeLine; decide, .nil⟩
    have LX : LTxt mg CTrial fT := { tri := PySem.W.mg_of X G aCT, take := PySem.W.mg_of X G aT, b_len := PySem.W.mg_none_of X G n_len, b_range := PySem.W.mg_none_of X G n_range }
    have GTs : FnOk P w K mg base CX0 2 fTs _ ["_law_box_here", "_law_truth_here", "_law_count", "_law_tall"] spTrs := ok_trs FTs GT FT bT LX
    have GTl : FnOk P w K mg base CX0 3 fTl _ ["_law_rows"] (spTrl CTrial) := ok_trl FTl MKT GTi LX
    have GBg : FnOk P w K mg base CX0 4 fBg _ ["_law_box_here", "_law_many", "_law_count"] (spBig K) := ok_big FBg GT FT bT GSc FSc bSc GLq FLq bLq GTs FTs bTs { take := PySem.W.mg_of X G aT, spec := PySem.W.mg_of X G aSc, links := PySem.W.mg_of X G aLq, tries := PySem.W.mg_of X G aTs, b_len := PySem.W.mg_none_of X G n_len }
    have GMs : FnOk P w K mg base CX0 1 fMs _ ["_law_rows", "_law_heights"] spMsr := ok_msr FMs ⟨PySem.W.mg_none_of X G n_len⟩
    have GOu : FnOk P w K mg base CX0 7 fOu _ ["_law_site", "_law_trials_here", "_law_heights", "_law_pins", "_law_spare"] (spOut K CSite CTrial) := ok_out (C := (⟨CEN, CET, CEB, CEM, CEN, CEP, CES⟩ : Errs)) FOu (REP base) (REB base) (PySem.W.exm_ref ebEP hdEP tyEP sBP) GCk2 FCk2 bCK (PySem.W.mg_of X G aCk)
    have GDu : FnOk P w K mg base CX0 2 fDu _ ["_law_steps_here", "_law_rows", "_law_fixed", "_law_heights", "_law_spare", "_law_many"] spDue := ok_due FDu GLF FLF bLF GMs FMs bMs { fits := PySem.W.mg_of X G aLF, msr := PySem.W.mg_of X G aMs, b_len := PySem.W.mg_none_of X G n_len }
    have GCg : FnOk P w K mg base CX0 2 fCg _ ["_law_box_here", "_law_truth_here"] spChg := ok_chg FCg GT FT bT { take := PySem.W.mg_of X G aT, b_len := PySem.W.mg_none_of X G n_len, b_range := PySem.W.mg_none_of X G n_range, b_list := PySem.W.mg_none_of X G n_list }
    have GRf : FnOk P w K mg base CX0 8 fRf _ ["_law_site", "_law_rows", "_law_fixed", "_law_truth_here", "_law_odd", "_law_at", "_law_below"] (spRfs K CSite CTrial) := ok_rfs FRf GTl FTl bTl GOu FOu bOu MKT GTi { tri := PySem.W.mg_of X G aCT, trials := PySem.W.mg_of X G aTl, out := PySem.W.mg_of X G aOu }
    have GSa : FnOk P w K mg base CX0 1 fSa _ ["_law_told", "_law_due_here"] spSay := ok_say FSa
    exact ok_law (C := (⟨CEN, CET, CEB, CEM, CEN, CEP, CES⟩ : Errs)) FL { box := PySem.W.mg_of X G aB, take := PySem.W.mg_of X G aT, big := PySem.W.mg_of X G aBg, tries := PySem.W.mg_of X G aTs, steps := PySem.W.mg_of X G aSt, trials := PySem.W.mg_of X G aTl, chg := PySem.W.mg_of X G aCg, out := PySem.W.mg_of X G aOu, says := PySem.W.mg_of X G aSa, due := PySem.W.mg_of X G aDu, rfs := PySem.W.mg_of X G aRf, cks := PySem.W.mg_of X G aCk, site := PySem.W.mg_of X G aCS, b_len := PySem.W.mg_none_of X G n_len, b_range := PySem.W.mg_none_of X G n_range, b_list := PySem.W.mg_none_of X G n_list }
      GB FB bB GT FT bT GBg FBg bBg GTs FTs bTs GSt FSt bSt GTl FTl bTl GCg FCg bCg GOu FOu bOu GSa FSa bSa GDu FDu bDu GRf FRf bRf GCk2 FCk2 bC0 vC0 hE GI2 MK⟩
theorem walk {l : PySem.W.OpenLaw} {q : Program} {loose : List Str} {XP : (Str → Option Value) → Heap → Prop} {YP : World → Heap → Prop} {d : DefRec} {K : Params → PySem.W.Frag} (hn : l.most = some 63) (hdf : d.params.defaults = [])
    (hY : ∀ (w : World) (h : Heap), YP w h → (K w.params).In h)
    (F : ∀ (w : World) (mg : Str → Option Value) (fa : Addr) (h : Heap), (K w.params).In h → h.Ns mainGlobals mg → mg d.name = some (.ref fa) →
      ∃ fd : FuncData, (∀ (s : Shared) (u : Value), BindsTo s fd ⟨[u], []⟩ [("_law_script", u)]) ∧ ∀ base : Heap, (K w.params).In base → base.Ns mainGlobals mg → FnOk l.prog w (K w.params) mg base CX0 9 fa fd ["_law_script"] (spLaw (K w.params))) :
    PySem.W.WalkO q loose XP YP l.row.toRowW d [] (fun f vs => PySem.call f vs) :=
  L2.walk_of (n := 63) (k := 9) (x := "_law_script") (CX := fun _ => CX0) (sp := fun w => spLaw (K w.params)) hn (by decide) hdf ⟨rfl, by decide, by decide⟩ hY F (fun _ _ a ns hl _ hS => ⟨a, ns, rfl, hS, hl, fun _ => rfl⟩) fun _ _ _ _ _ z => z
end Law

open PySem PySem.W PyProof.Rows
set_option maxRecDepth 100000 in
set_option maxHeartbeats 0 in
theorem PySem.Challenge.cw_rungbounds_k51_shapes_checked_holds : PySem.Challenge.rw_rungbounds_k51_shapes_checked.Holds := by
  w_on; o_law; k_head; (case hw => w_witness2)
  k_fill
  refine Law.walk (l := PySem.Challenge.rw_rungbounds_k51_shapes_checked) rfl rfl (fun w h Y => PySem.W.kIn_of Y) ?F
  case F =>
    intro w mg fa h KX G hmg
    refine' Law.all_mk KX G hmg (by rfl) ?aCS ?aCT ?aN ?lN ?cN ?kN ?aK ?lK ?cK ?kK ?aCr ?lCr ?cCr ?kCr ?aCu ?lCu ?cCu ?kCu ?aCl ?lCl ?cCl ?kCl ?aSo ?lSo ?cSo ?kSo ?aTo ?lTo ?cTo ?kTo ?aTd ?lTd ?cTd ?kTd ?aGr ?lGr ?cGr ?kGr ?aSl ?lSl ?cSl ?kSl ?aLk ?lLk ?cLk ?kLk ?aFi ?lFi ?cFi ?kFi ?aRb ?lRb ?cRb ?kRb ?aLs ?lLs ?cLs ?kLs ?aFs ?lFs ?cFs ?kFs ?aSb ?lSb ?cSb ?kSb ?aMi ?lMi ?cMi ?kMi ?iMi ?dMi ?aMf ?lMf ?cMf ?kMf ?iMf ?aMc ?lMc ?cMc ?kMc ?iMc ?aTi ?lTi ?cTi ?kTi ?iTi ?aPs ?lPs ?cPs ?kPs ?aTg ?lTg ?cTg ?kTg ?iTg ?aMq ?lMq ?cMq ?kMq ?aCk ?lCk ?cCk ?kCk ?aB ?lB ?cB ?kB ?aT ?lT ?cT ?kT ?aTr ?lTr ?cTr ?kTr ?aSn ?lSn ?cSn ?kSn ?aSc ?lSc ?cSc ?kSc ?aLq ?lLq ?cLq ?kLq ?aSt ?lSt ?cSt ?kSt ?aTs ?lTs ?cTs ?kTs ?aTl ?lTl ?cTl ?kTl ?aBg ?lBg ?cBg ?kBg ?aLF ?lLF ?cLF ?kLF ?aMs ?lMs ?cMs ?kMs ?aOu ?lOu ?cOu ?kOu ?aDu ?lDu ?cDu ?kDu ?aCg ?lCg ?cCg ?kCg ?aRf ?lRf ?cRf ?kRf ?aSa ?lSa ?cSa ?kSa ?aL ?lL ?cL ?kL ?opq ?nsup ?aEB ?xEB ?saEB ?gaEB ?ggEB ?nbEB ?iEB ?tEB ?lEB ?coEB ?lkEB ?vkEBx ?feEB ?leEB ?mrEB ?upEB ?svEB ?kcEB ?ebEB ?tyEB ?hdEB ?ssEB ?aEN ?xEN ?saEN ?gaEN ?ggEN ?nbEN ?iEN ?tEN ?lEN ?coEN ?lkEN ?vkENx ?feEN ?leEN ?mrEN ?upEN ?svEN ?kcEN ?ebEN ?tyEN ?hdEN ?ssEN ?aET ?xET ?saET ?gaET ?ggET ?nbET ?iET ?tET ?lET ?coET ?lkET ?vkETx ?feET ?leET ?mrET ?upET ?svET ?kcET ?ebET ?tyET ?hdET ?ssET ?aEP ?xEP ?saEP ?gaEP ?ggEP ?nbEP ?iEP ?tEP ?lEP ?coEP ?lkEP ?vkEPx ?feEP ?leEP ?mrEP ?upEP ?svEP ?kcEP ?ebEP ?tyEP ?hdEP ?ssEP ?aEM ?xEM ?saEM ?gaEM ?ggEM ?nbEM ?iEM ?tEM ?lEM ?coEM ?lkEM ?vkEMx ?feEM ?leEM ?mrEM ?upEM ?svEM ?kcEM ?ebEM ?tyEM ?hdEM ?ssEM ?aES ?xES ?saES ?gaES ?ggES ?nbES ?iES ?tES ?lES ?coES ?lkES ?vkESx ?feES ?leES ?mrES ?upES ?svES ?kcES ?ebES ?tyES ?hdES ?ssES ?n_len ?n_int ?n_bool ?n_isinstance ?n_range ?n_list ?n_tuple ?n_enumerate ?n_zip ?n_max ?n_min ?n_all ?n_any ?cPG ?cHD ?cPO ?cSA ?cN0 ?cN1 ?cN2 ?cN3 ?cN4 ?cN5 ?cN6 ?cN7 ?cMK ?cKP ?tLT ?tLG ?tMP ?tGR ?tPG ?tHD ?tPO ?tSA ?tMK ?tKP ?tF0 ?tF1 ?tF2 ?eCk ?mCk ?uCk ?oCk ?sBP
    (case aCS => k_is)
    (case aCT => k_is)
    (case aN => k_is)
    (case lN => k_is)
    (case cN => k_is)
    (case kN => k_is)
    (case aK => k_is)
    (case lK => k_is)
    (case cK => k_is)
    (case kK => k_is)
    (case aCr => k_is)
    (case lCr => k_is)
    (case cCr => k_is)
    (case kCr => k_is)
    (case aCu => k_is)
    (case lCu => k_is)
    (case cCu => k_is)
    (case kCu => k_is)
    (case aCl => k_is)
    (case lCl => k_is)
    (case cCl => k_is)
    (case kCl => k_is)
    (case aSo => k_is)
    (case lSo => k_is)
    (case cSo => k_is)
    (case kSo => k_is)
    (case aTo => k_is)
    (case lTo => k_is)
    (case cTo => k_is)
    (case kTo => k_is)
    (case aTd => k_is)
    (case lTd => k_is)
    (case cTd => k_is)
    (case kTd => k_is)
    (case aGr => k_is)
    (case lGr => k_is)
    (case cGr => k_is)
    (case kGr => k_is)
    (case aSl => k_is)
    (case lSl => k_is)
    (case cSl => k_is)
    (case kSl => k_is)
    (case aLk => k_is)
    (case lLk => k_is)
    (case cLk => k_is)
    (case kLk => k_is)
    (case aFi => k_is)
    (case lFi => k_is)
    (case cFi => k_is)
    (case kFi => k_is)
    (case aRb => k_is)
    (case lRb => k_is)
    (case cRb => k_is)
    (case kRb => k_is)
    (case aLs => k_is)
    (case lLs => k_is)
    (case cLs => k_is)
    (case kLs => k_is)
    (case aFs => k_is)
    (case lFs => k_is)
    (case cFs => k_is)
    (case kFs => k_is)
    (case aSb => k_is)
    (case lSb => k_is)
    (case cSb => k_is)
    (case kSb => k_is)
    (case aMi => k_is)
    (case lMi => k_is)
    (case cMi => k_is)
    (case kMi => k_is)
    (case iMi => k_is)
    (case dMi => k_is)
    (case aMf => k_is)
    (case lMf => k_is)
    (case cMf => k_is)
    (case kMf => k_is)
    (case iMf => k_is)
    (case aMc => k_is)
    (case lMc => k_is)
    (case cMc => k_is)
    (case kMc => k_is)
    (case iMc => k_is)
    (case aTi => k_is)
    (case lTi => k_is)
    (case cTi => k_is)
    (case kTi => k_is)
    (case iTi => k_is)
    (case aPs => k_is)
    (case lPs => k_is)
    (case cPs => k_is)
    (case kPs => k_is)
    (case aTg => k_is)
    (case lTg => k_is)
    (case cTg => k_is)
    (case kTg => k_is)
    (case iTg => k_is)
    (case aMq => k_is)
    (case lMq => k_is)
    (case cMq => k_is)
    (case kMq => k_is)
    (case aCk => k_is)
    (case lCk => k_is)
    (case cCk => k_is)
    (case kCk => k_is)
    (case aB => k_is)
    (case lB => k_is)
    (case cB => k_is)
    (case kB => k_is)
    (case aT => k_is)
    (case lT => k_is)
    (case cT => k_is)
    (case kT => k_is)
    (case aTr => k_is)
    (case lTr => k_is)
    (case cTr => k_is)
    (case kTr => k_is)
    (case aSn => k_is)
    (case lSn => k_is)
    (case cSn => k_is)
    (case kSn => k_is)
    (case aSc => k_is)
    (case lSc => k_is)
    (case cSc => k_is)
    (case kSc => k_is)
    (case aLq => k_is)
    (case lLq => k_is)
    (case cLq => k_is)
    (case kLq => k_is)
    (case aSt => k_is)
    (case lSt => k_is)
    (case cSt => k_is)
    (case kSt => k_is)
    (case aTs => k_is)
    (case lTs => k_is)
    (case cTs => k_is)
    (case kTs => k_is)
    (case aTl => k_is)
    (case lTl => k_is)
    (case cTl => k_is)
    (case kTl => k_is)
    (case aBg => k_is)
    (case lBg => k_is)
    (case cBg => k_is)
    (case kBg => k_is)
    (case aLF => k_is)
    (case lLF => k_is)
    (case cLF => k_is)
    (case kLF => k_is)
    (case aMs => k_is)
    (case lMs => k_is)
    (case cMs => k_is)
    (case kMs => k_is)
    (case aOu => k_is)
    (case lOu => k_is)
    (case cOu => k_is)
    (case kOu => k_is)
    (case aDu => k_is)
    (case lDu => k_is)
    (case cDu => k_is)
    (case kDu => k_is)
    (case aCg => k_is)
    (case lCg => k_is)
    (case cCg => k_is)
    (case kCg => k_is)
    (case aRf => k_is)
    (case lRf => k_is)
    (case cRf => k_is)
    (case kRf => k_is)
    (case aSa => k_is)
    (case lSa => k_is)
    (case cSa => k_is)
    (case kSa => k_is)
    (case aL => k_is)
    (case lL => k_is)
    (case cL => k_is)
    (case kL => k_is)
    (case opq => k_is)
    (case nsup => k_is)
    (case aEB => k_is)
    (case xEB => k_is)
    (case saEB => k_is)
    (case gaEB => k_is)
    (case ggEB => k_is)
    (case nbEB => k_is)
    (case iEB => k_is)
    (case tEB => k_is)
    (case lEB => k_is)
    (case coEB => k_is)
    (case lkEB => k_is)
    (case vkEBx => rfl)
    (case feEB => decide +kernel)
    (case leEB => k_is)
    (case mrEB => k_is)
    (case upEB => first | ks_is | rfl)
    (case svEB => k_is)
    (case kcEB => k_is)
    (case ebEB => k_is)
    (case tyEB => k_is)
    (case hdEB => k_is)
    (case ssEB => first | rfl | k_is)
    (case aEN => k_is)
    (case xEN => k_is)
    (case saEN => k_is)
    (case gaEN => k_is)
    (case ggEN => k_is)
    (case nbEN => k_is)
    (case iEN => k_is)
    (case tEN => k_is)
    (case lEN => k_is)
    (case coEN => k_is)
    (case lkEN => k_is)
    (case vkENx => rfl)
    (case feEN => decide +kernel)
    (case leEN => k_is)
    (case mrEN => k_is)
    (case upEN => first | ks_is | rfl)
    (case svEN => k_is)
    (case kcEN => k_is)
    (case ebEN => k_is)
    (case tyEN => k_is)
    (case hdEN => k_is)
    (case ssEN => first | rfl | k_is)
    (case aET => k_is)
    (case xET => k_is)
    (case saET => k_is)
    (case gaET => k_is)
    (case ggET => k_is)
    (case nbET => k_is)
    (case iET => k_is)
    (case tET => k_is)
    (case lET => k_is)
    (case coET => k_is)
    (case lkET => k_is)
    (case vkETx => rfl)
    (case feET => decide +kernel)
    (case leET => k_is)
    (case mrET => k_is)
    (case upET => first | ks_is | rfl)
    (case svET => k_is)
    (case kcET => k_is)
    (case ebET => k_is)
    (case tyET => k_is)
    (case hdET => k_is)
    (case ssET => first | rfl | k_is)
    (case aEP => k_is)
    (case xEP => k_is)
    (case saEP => k_is)
    (case gaEP => k_is)
    (case ggEP => k_is)
    (case nbEP => k_is)
    (case iEP => k_is)
    (case tEP => k_is)
    (case lEP => k_is)
    (case coEP => k_is)
    (case lkEP => k_is)
    (case vkEPx => rfl)
    (case feEP => decide +kernel)
    (case leEP => k_is)
    (case mrEP => k_is)
    (case upEP => first | ks_is | rfl)
    (case svEP => k_is)
    (case kcEP => k_is)
    (case ebEP => k_is)
    (case tyEP => k_is)
    (case hdEP => k_is)
    (case ssEP => first | rfl | k_is)
    (case aEM => k_is)
    (case xEM => k_is)
    (case saEM => k_is)
    (case gaEM => k_is)
    (case ggEM => k_is)
    (case nbEM => k_is)
    (case iEM => k_is)
    (case tEM => k_is)
    (case lEM => k_is)
    (case coEM => k_is)
    (case lkEM => k_is)
    (case vkEMx => rfl)
    (case feEM => decide +kernel)
    (case leEM => k_is)
    (case mrEM => k_is)
    (case upEM => first | ks_is | rfl)
    (case svEM => k_is)
    (case kcEM => k_is)
    (case ebEM => k_is)
    (case tyEM => k_is)
    (case hdEM => k_is)
    (case ssEM => first | rfl | k_is)
    (case aES => k_is)
    (case xES => k_is)
    (case saES => k_is)
    (case gaES => k_is)
    (case ggES => k_is)
    (case nbES => k_is)
    (case iES => k_is)
    (case tES => k_is)
    (case lES => k_is)
    (case coES => k_is)
    (case lkES => k_is)
    (case vkESx => rfl)
    (case feES => decide +kernel)
    (case leES => k_is)
    (case mrES => k_is)
    (case upES => first | ks_is | rfl)
    (case svES => k_is)
    (case kcES => k_is)
    (case ebES => k_is)
    (case tyES => k_is)
    (case hdES => k_is)
    (case ssES => first | rfl | k_is)
    (case n_len => k_is)
    (case n_int => k_is)
    (case n_bool => k_is)
    (case n_isinstance => k_is)
    (case n_range => k_is)
    (case n_list => k_is)
    (case n_tuple => k_is)
    (case n_enumerate => k_is)
    (case n_zip => k_is)
    (case n_max => k_is)
    (case n_min => k_is)
    (case n_all => k_is)
    (case n_any => k_is)
    (case cPG => first | k_is | rfl | kernel_rfl)
    (case cHD => first | k_is | rfl | kernel_rfl)
    (case cPO => first | k_is | rfl | kernel_rfl)
    (case cSA => k_is)
    (case cN0 => k_is)
    (case cN1 => k_is)
    (case cN2 => k_is)
    (case cN3 => k_is)
    (case cN4 => k_is)
    (case cN5 => k_is)
    (case cN6 => k_is)
    (case cN7 => k_is)
    (case cMK => first | k_is | rfl | kernel_rfl)
    (case cKP => k_is)
    (case tLT => k_is)
    (case tLG => k_is)
    (case tMP => k_is)
    (case tGR => k_is)
    (case tPG => first | k_is | rfl | kernel_rfl)
    (case tHD => first | k_is | rfl | kernel_rfl)
    (case tPO => first | k_is | rfl | kernel_rfl)
    (case tSA => k_is)
    (case tMK => first | k_is | rfl | kernel_rfl)
    (case tKP => k_is)
    (case tF0 => k_is)
    (case tF1 => k_is)
    (case tF2 => k_is)
    (case eCk => rfl)
    (case mCk => k_is)
    (case uCk => k_is)
    (case oCk => k_is)
    (case sBP => first | rfl | k_is)
