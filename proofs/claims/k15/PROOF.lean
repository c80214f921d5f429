import PyProof.Rows.All
import Wide.All
import OpenK.AllK
import Wide.FinOn
import HandS.ForMost
import HandS.Wide
import HandS.ExcInit
import HandS.FStr
import HandS.Nested
import HandS.TryOnly
import HandS.ExcField
import HandS.WordsExc
import HandS.IsInst
import HandS.Codes
import HandS.Gcd
import HandS.Star
import HandS.ClsMeth
import KE.KTupSum
import HandS.Defaults
import HandS.ExcIs
import KE.KExcSuper
import KE.KMathG
import HandS.FStrTup
import HandS.OwnEq
import HandS.TupLe
import HandS.DeepEq
import HandS.MakeKw
import HandS.Walk
import HandS.WordsDict
import HandS.More
import HandS.Deep
import HandS.Style
import HandS.Flow
import HandS.CallSlots
import KE.GoesRaise
import PyProof.ReprReads
import HandS.MethStar
import HandS.SortInts
import HandS.DictComp
import KE.KSortedM
import HandS.DictTup
import HandS.Zip
import HandS.Conv
import HandS.TupMul
import KE.KCallOwn
import PyProof.Draws
import KE.GoesMore
import PySem.Challenge.RW_rungbounds_k15_misread_and_pinned
set_option Elab.async false
set_option linter.all false
set_option maxRecDepth 100000
set_option maxHeartbeats 4000000
/-! Errors whose making calls super().__init__ on a text, then keeps a field. -/
namespace Sup
open PySem PySem.Spec PyProof.Rows L2 NdefX

abbrev mwrap (x : Addr) : Obj := PySem.W.kxs_mw "ValueError.__init__" x

/-- the wrapper of ValueError.__init__ bound to a, called -/
theorem call_wrap {prog : Program} {w : World} {A : Around} {E : Value → Shared → Prop} {h : Heap} {g : Array GenState} {d : Drawn} {t : Nat} {os : OsState}
    {nm q : Str} {C N : Addr} {bs bm : List Value} {hd : Bool} {sn : List Str} {sub : List Value} {ab : Bool} {col : Option Bool} {dd : Option Addr} {k0 k1 k2 k3 k5 : Option Value}
    {u a t0 : Addr} {us : List Value} {Q : Value → Shared → Prop}
    (hC : h.get? C = some (excClassObj nm q C N bs bm hd sn sub ab col dd k0 k1 k2 k3 k5 "ValueError.__new__"))
    (ha : h.get? a = some (PySem.HandSPX.excO C t0)) (hu : h.get? u = some (mwrap a)) (hl : us.length ≤ sizeLine)
    (hq : ∀ h' t1, (∀ b o, b ≠ a → h.get? b = some o → h'.get? b = some o) → h'.get? a = some (PySem.HandSPX.excO C t1) → Q .none ⟨h', g, d, t, os⟩) :
    wpAny (model prog w) A (call (.ref u) us) Q E ⟨h, g, d, t, os⟩ := by
  have FB := F.excBase_ValueError
  refine wpAny_call (codeAny_of_tree ?_)
  show wpAny _ A.in1 (callAny (.ref u) ⟨us, []⟩) _ _ _
  unfold callAny
  refine wpAny_bind (wpAny_load hu ?_)
  have k1' : (Value.type "method-wrapper" == Value.type "method" || Value.type "method-wrapper" == Value.type "builtin_function_or_method" || Value.type "method-wrapper" == Value.type "method-wrapper") = true := by decide
  simp only [mwrap, PySem.W.kxs_mw, k1', if_true]
  refine PySem.W.KFB.if_so (by decide) ?_
  refine wpAny_bind (PySem.W.check_bound_init FB.toExcCallFacts hC ha rfl ?_)
  refine wpAny_bind (wpAny_pure (wpAny_pure ?_))
  refine ⟨plainId_quiet FB.init.plain _, codeAny_builtin FB.initEntry ?_⟩
  exact PySem.W.exc_init_tree (cls := .ref C) (t0 := t0) (dv := none) (c2 := .none) (c3 := .none) (b4 := .bool false) ha hl fun h' k e _ => hq h' _ k e

/-- what the written part says of an own error's class at C and its __init__ at f -/
structure ErrTxt (P : Program) (K : PySem.W.Frag) (mg : Str → Option Value) (C f cda cc : Addr) (qual : Str) (st : Stmt) : Prop where
  oex : OexC K C
  iC : PySem.W.findIn K (.ref C) "__init__" = some (some (.ref f))
  tI : PySem.W.typeIn K (.ref f) = some (.type "function")
  fn : ∃ (oc : Value) (od an : Option Addr) (kV doc pm ct : Value) (osl : Array (Option Value)),
    K.lookup f = some ⟨oc, od, .func (PySem.W.fnX "__init__" qual (defArgs st) (defBody st) (defScope st) [("__class__", cc)] .none kV doc pm an (.ref cda) ct), osl⟩
  code : PySem.W.codeIn K (.ref cda) qual = true
  file : ∃ (o : Obj) (vs : Array Value) (fl : Str) (tf : Tok), K.lookup cda = some o ∧ o.data = .fields vs ∧ vs[2]? = some (.str fl tf) ∧ ((P.main.file : Str) == fl) = true
  cell : ∃ (o : Obj), K.lookup cc = some o ∧ o.data = .cell (some (.ref C))
  self : PySem.W.mroIn K C (.ref C) = some true
  opaque_ : PySem.W.nsIn K cStatics "thirdparty.any" = some none
  up : PySem.W.ks_superIn K C C "__init__" = some (some (.builtin "ValueError.__init__"))
  isVE : PySem.W.subIn K (.ref C) (.type "ValueError") = some true
  top : (P.main.scope.names.lookup ("super" : Str)).isSome = false
  noSup : mg "super" = none

section
variable {X : Cx} {pins : List (Addr × Obj)} {σ : L2.St} {H : Hp} {s : Shared} {a C f cda cc : Addr} {qual : Str} {st : Stmt} {e : Expr} {te : TE} {body : List Stmt} {p0 p1 p2 p3 : Pos} {Q : Hp → Prop} {scope : Scope} {ar : Arg}
theorem super_init (T : ErrTxt X.prog X.K X.mg C f cda cc qual st) (I : Inv X pins σ H s)
    (henv : X.env = PySem.W.envX qual scope X.env.locals f (.ref cda) [("__class__", cc)])
    (hks : scope.names.lookup ("super" : Str) = some .globalImplicit) (hkc : scope.names.lookup ("__class__" : Str) = some .free)
    (hks' : scope.names.lookup ar.arg = some .local)
    (har : ((defArgs st).posonlyargs ++ (defArgs st).args).head? = some ar)
    (h0 : X.N[0]? = some ar.arg) (hs0 : σ[0]? = some (some (V.ref a))) (ha : H a = some (exo a C none))
    (he : PE X e te) (hq : te σ H fun x H1 => [x].length ≤ 1 ∧ H1 a = some (exo a C none) ∧ Q H1) {pl : Sem Bool}
    (hform : eval (.Call (.Attribute (.Call (.Name "super" p0) [] [] p1) "__init__" p2) [e] [] p3) X.env = (do
      let ov ← attributeBase (.Call (.Name "super" p0) [] [] p1) "__init__" X.env (eval (.Call (.Name "super" p0) [] [] p1) X.env)
      standAt p2.atName
      let (g, first) ← holding [ov] (getMethod ov "__init__" pl)
      callWith p3 g first (backTo p3 (starEach [e] X.env)) []) := by rfl)
    (hse : starEach [e] X.env = (false, eval e X.env) :: starEach [] X.env := by rfl) :
    _root_.PySem.wpAt (model X.prog X.w) X.A (.func body X.env) (eval (.Call (.Attribute (.Call (.Name "super" p0) [] [] p1) "__init__" p2) [e] [] p3) X.env)
      (fun _ s' => ∃ H', Inv X pins σ H' s' ∧ Q H') X.xe s := by
  have kS : X.env.kindOf "super" = some .globalImplicit := by rw [henv]; exact hks
  have kC : X.env.kindOf "__class__" = some .free := by rw [henv]; exact hkc
  have kA : X.env.kindOf ar.arg = some .local := by rw [henv]; exact hks'
  have cL : X.env.cells.lookup ("__class__" : Str) = some cc := by rw [henv]; rfl
  have fL : X.env.func = some f := by rw [henv]
  have dL : X.env.code = .ref cda := by rw [henv]
  obtain ⟨nm, q, N, bs, bm, sn, sub, ab, col, dd, k0, k1, k2, k3, k5, hC, hbm⟩ := T.oex.cls
  have hcl : PySem.W.clsIn X.K C = some { name := nm, bases := bs, mro := .ref C :: bm, ns := N, qualname := q, hasDict := true, slotNames := sn, subclasses := sub, abstract := ab, collection := col, hasDel := false } := by
    unfold PySem.W.clsIn; rw [hC] <;> rfl
  obtain ⟨oc, od, an, kV, doc, pm, ct, osl, lf⟩ := T.fn
  obtain ⟨oF, vs, fl, tf, lc, hvf, hv2, hfl⟩ := T.file
  obtain ⟨oc2, lcell, dcell⟩ := T.cell
  obtain ⟨t1, hga⟩ := exo_at I.hok ha
  refine ks_wpAt_MethodCall (o := .Call (.Name "super" p0) [] [] p1) (name := "__init__") (apos := p2) (pos := p3) (args := [e]) (env := X.env) ?_ hform
  refine ks_wpAt_super_base (env := X.env) (cc := cda) (ar := ar) kS kC (by decide) fL (I.kIn _ _ lf) rfl har dL (I.kIn _ _ lc) hvf hv2 hfl T.top ?_
  -- the name super
  obtain ⟨mb, hb1, hb2⟩ := I.mod.blt
  refine PySem.W.ks_loadName_global I.ok.kind kS (Calls.loadGlobal_builtin (v := .type "super") (by rw [I.ok.glob]; exact I.mod.glob.keeps I.bk) T.noSup
    (by rw [I.ok.blt]; exact hb1.keeps I.bk) ((hb2 _ (by decide)).trans (by decide +kernel)) ⟨rfl, ?_⟩)
  -- the cell __class__
  refine wpAny_loadName_free I.ok.kind kC cL (v := .ref C) ⟨_, I.kIn _ _ lcell, dcell⟩ ?_
  -- self
  obtain ⟨m, hn, hlm⟩ := I.loc
  obtain ⟨u, ru, hlook⟩ := hlm 0 ar.arg (V.ref a) h0 hs0 (.inl (by rw [henv]; exact hks'))
  obtain rfl : u = Value.ref a := ru
  have hma : m ar.arg = some (Value.ref a) := by
    rcases hlook with ⟨_, z⟩ | ⟨z, _⟩
    · exact z
    · rw [kA] at z
      rcases z with z | z <;> cases z
  refine wpAny_loadName_local I.ok.kind kA hn hma ?_
  have gC := I.kIn _ _ hC
  refine ks_wpAny_isType_cls gC rfl ⟨rfl, ?_⟩
  obtain ⟨hp, g, d, t, os⟩ := s
  refine ks_wpAny_call_super gC rfl hga rfl (fun c z => by cases z) (PySem.W.looks_mroIn I.kIn T.self) fun h1 e1 k1 => ?_
  have J1 : Inv X pins σ H ⟨h1, g, d, t, os⟩ := I.kept (t' := t) k1
  have I1 : PySem.W.InstAt h1 a (PySem.HandSPX.excO C t1) C none := ⟨k1 _ _ hga, rfl, rfl, trivial⟩
  have hup := T.up
  unfold PySem.W.ks_superIn at hup
  rw [hcl] at hup
  refine PySem.W.kxs_getMethod PySem.W.kxs_ValueError e1 (PySem.W.looks_opaque J1.kIn T.opaque_)
    (fun A' Q' E' s' k q => wpAny_bind ((PySem.W.looks_clsIn J1.kIn hcl) A' _ E' s' k (wpAny_pure q))) rfl J1.kIn hup
    (I1.type.andThen (PySem.W.looks_subIn J1.kIn T.isVE)) (PySem.W.ks_ne J1.kIn I1 hcl) (by decide) ?_
  have gu : (h1.push (mwrap a)).get? h1.objs.size = some (mwrap a) := Heap.get?_push_at rfl rfl
  have J2 : Inv X pins σ H ⟨h1.push (mwrap a), g, d, t + 1, os⟩ := J1.kept (t' := t + 1) fun b o z => Heap.get?_push_of_some _ z
  have J3 : Inv X ((h1.objs.size, mwrap a) :: pins) σ H ⟨h1.push (mwrap a), g, d, t + 1, os⟩ := J2.pins_of fun p hp => by
    rcases List.mem_cons.mp hp with rfl | hp
    · refine ⟨gu, J1.hok.fresh (Nat.le_refl _), fun z => ?_, J1.nofs (Nat.le_refl _), fun v z => by cases z⟩
      have z' : h1.objs.size = X.env.locals := z
      have y := J1.lt
      rw [← z'] at y
      exact absurd y (Nat.lt_irrefl _)
    · exact J2.pin p (List.mem_append_right _ hp)
  show wpAny _ _ (callWith p3 (.ref h1.objs.size) [] (backTo p3 (starEach [e] X.env)) []) _ _ _
  have hq' : tCons te tNil σ H fun xs H1 => xs.length ≤ 1 ∧ H1 a = some (exo a C none) ∧ Q H1 := hq
  rw [hse]
  refine PySem.W.kxs_callWith (i := "ValueError.__init__") (x := a) (by rfl) ?_
  refine Calls.evalArgs_plain ?_
  have pr := (pa_cons he pa_nil hse).run p3 _ _ σ H _ J3 hq'
  rw [hse] at pr
  refine thn pr fun us s2 hh => ?_
  obtain ⟨xs, H2, I2, r2, hx1, ha2, hQ2⟩ := hh
  have gw := (I2.pin (h1.objs.size, mwrap a) (List.mem_append_right _ List.mem_cons_self)).1
  refine ⟨gw, ?_⟩
  obtain ⟨t2, hga2⟩ := exo_at I2.hok ha2
  obtain ⟨hp2, g2, d2, tk2, os2⟩ := s2
  have hul : us.length ≤ sizeLine := by
    rw [← r2.length, sizeLine_eq]
    omega
  refine call_wrap (us := us) (I2.kIn _ _ hC) hga2 gw hul fun h3 t3 k3' e3 => ?_
  have J4 := I2.write (t' := tk2) (x := a) (e := a) (o := exo a C none) (by rw [ha2]; exact True.intro) (.inl rfl) k3' ⟨_, e3⟩ (exo_ok e3)
  have eu : upd H2 a (exo a C none) = H2 := by
    funext b
    by_cases hb : b = a
    · rw [hb, upd_same, ha2]
    · exact upd_ne hb
  rw [eu] at J4
  exact ⟨H2, J4.pins_of fun p hp => J4.pin p (List.mem_append_right _ (List.mem_cons_of_mem _ hp)), hQ2⟩
end

/-! ### the making of an own error, as a promise -/
/-- at a an exception of the class at C is being made; the argument v goes to the field fl -/
def spErr (C : Addr) (fl : Str) (ok : V → Prop) : Sp := fun vs H Q _ => ∃ (a : Addr) (v : V), vs = [.ref a, v] ∧ H a = some (exo a C none) ∧ ok v ∧
  ∀ dx, H dx = none → dx ≠ a → Q .non (upd (upd H dx (exd dx [(fl, v)])) a (exo a C (some dx)))

def okInt : V → Prop := fun v => ∃ i : Int, v = .int i ∧ i.natAbs.log2 < 1920
def okTxt : V → Prop := fun v => ∃ y : Str, v = .str y ∧ (reprText y).length ≤ 10000

section
variable {P : Program} {w : World} {K : PySem.W.Frag} {mg : Str → Option Value} {base : Heap} {C f cda cc : Addr} {qual pn : Str} {st : Stmt} {N : List Str}

abbrev supNF (qual : Str) (st : Stmt) (cda cc : Addr) : NF := ⟨"__init__", qual, defArgs st, defBody st, defScope st, [("__class__", cc)], cda⟩

/-- a def that closes over __class__ alone, entered: its body runs in the frame of NdefX -/
theorem sup_fn {CX : CXT} {sp : Sp} {k : Nat} {ps : List Str} (T : ErrTxt P K mg C f cda cc qual st) (S : NScope N ps ["__class__"] (defScope st))
    (len : ∀ vs H Q E, sp vs H Q E → vs.length = ps.length)
    (hb : ∀ (oc : Value) (od an : Option Addr) (kV doc pm ct : Value) (us : List Value), us.length = ps.length →
      bindArgs (PySem.W.fnX "__init__" qual (defArgs st) (defBody st) (defScope st) [("__class__", cc)] .none kV doc pm an (.ref cda) ct) ⟨us, []⟩ = pure (ps.zip us))
    (hbody : ∀ (A : Around) (outer : List Env) (s : Shared) (H : Hp) (vs : List V) (Q : VK) (E : XK), sp vs H Q E → Room k (ncx CX P w K mg base N (supNF qual st cda cc) f A outer s H E).A →
      ∀ s1, L2.Inv (ncx CX P w K mg base N (supNF qual st cda cc) f A outer s H E) [] (startF N vs [none]) H s1 →
        _root_.PySem.wpAt (model P w) (ncx CX P w K mg base N (supNF qual st cda cc) f A outer s H E).A (.func (defBody st) (ncx CX P w K mg base N (supNF qual st cda cc) f A outer s H E).env)
          (execs (defBody st) (ncx CX P w K mg base N (supNF qual st cda cc) f A outer s H E).env)
          (SP (ncx CX P w K mg base N (supNF qual st cda cc) f A outer s H E) [] { nx := fun _ H' => Q .non H', rt := Q })
          (ncx CX P w K mg base N (supNF qual st cda cc) f A outer s H E).xe s1) :
    ∃ fd, FnOk P w K mg base CX (k + 1) f fd ps sp ∧ Binds K fd ps [] := by
  obtain ⟨oc, od, an, kV, doc, pm, ct, osl, lf⟩ := T.fn
  obtain ⟨oc2, lcell, dcell⟩ := T.cell
  refine ⟨_, ⟨len, fun A outer s H args us vs Q E hr e0 hbd r hsp => ?_⟩, Binds.all (hb oc od an kV doc pm ct)⟩
  have hl := len _ _ _ _ hsp
  have KX : K.In s.heap := e0.mod.kin.keeps fun b o e => (e0.bs b o e).1
  have lim : s.heap.NoLimit := e0.mod.nolimit.keeps fun b o e => (e0.bs b o e).1
  have hH : H cc = none := (e0.bs cc oc2 (e0.mod.kin _ _ lcell)).2
  have CA : CellsAt [("__class__", cc)] ["__class__"] [none] s.heap H := {
    len := rfl
    all := fun y c h => by
      have h' : (if y = ("__class__" : Str) then some cc else none) = some c := by
        by_cases e : y = ("__class__" : Str)
        · subst e; exact h
        · have q : (y == ("__class__" : Str)) = false := by simpa using e
          have z : List.lookup y [(("__class__" : Str), cc)] = none := by simp [List.lookup, q]
          rw [z] at h; cases h
      split at h'
      · cases h'
        exact ⟨hH, some (.ref C), oc2, KX _ _ lcell, dcell⟩
      · cases h'
    inj := fun x y c h1 h2 => by
      have key : ∀ z : Str, List.lookup z [(("__class__" : Str), cc)] = some c → z = "__class__" := fun z hz => by
        by_cases e : z = ("__class__" : Str)
        · exact e
        · have q : (z == ("__class__" : Str)) = false := by simpa using e
          have w : List.lookup z [(("__class__" : Str), cc)] = none := by simp [List.lookup, q]
          rw [w] at hz; cases hz
      exact (key x h1).trans (key y h2).symm
    has := fun i y h => by
      match i, h with
      | 0, h =>
        have e : ("__class__" : Str) = y := Option.some.inj h
        subst e
        exact ⟨cc, by simp [List.lookup], fun v z => by cases z⟩
      | i + 1, h => cases h }
  refine ks_codeAny_call_defAt (binds := ps.zip us) hr.depth (KX _ _ lf) rfl lim (PySem.W.codeRec_of KX T.code) rfl hbd S.nocell (fun ⟨n, _⟩ hy => S.par n (List.of_mem_zip hy).1) (fun h1 hns kp => ?_) S.co S.gen S.kind
  have I : L2.Inv (ncx CX P w K mg base N (supNF qual st cda cc) f A outer s H E) [] (startF N vs [none]) H { s with heap := h1, toks := s.toks + (ps.zip us).length } :=
    inv_startN S hr.hd e0 hl r CA hns kp
  refine _root_.PySem.wpAt_mono (hbody A outer s H vs Q E hsp (hr.deeper _) _ I) (fun fl s' hs => ?_) fun e s' hs => hs
  cases fl with
  | ret u =>
    obtain ⟨v, σ', H', J, rv, q⟩ := hs
    exact ⟨v, H', J.os, J.bare, J.base, J.hok, rv, q⟩
  | next =>
    obtain ⟨σ', H', J, q⟩ := hs
    exact ⟨V.non, H', J.os, J.bare, J.base, J.hok, rfl, q⟩
  | brk =>
    obtain ⟨_, _, _, q⟩ := hs
    exact False.elim q
  | cont =>
    obtain ⟨_, _, _, q⟩ := hs
    exact False.elim q
end

section
variable {P : Program} {w : World} {K : PySem.W.Frag} {mg : Str → Option Value} {base : Heap} {C f cda cc : Addr} {qual pn : Str} {st : Stmt} {N : List Str}

/-- the body: super().__init__(e), then one statement more -/
theorem two_run {X : Cx} {σ : L2.St} {H : Hp} {s : Shared} {a : Addr} {e : Expr} {te : TE} {t2 : TS} {st2 : Stmt} {body : List Stmt} {p0 p1 p2 p3 p4 : Pos} {scope : Scope} {ar : Arg} {D : Ends}
    (T : ErrTxt X.prog X.K X.mg C f cda cc qual st) (I : L2.Inv X [] σ H s)
    (henv : X.env = PySem.W.envX qual scope X.env.locals f (.ref cda) [("__class__", cc)])
    (hks : scope.names.lookup ("super" : Str) = some .globalImplicit) (hkc : scope.names.lookup ("__class__" : Str) = some .free)
    (hka : scope.names.lookup ar.arg = some .local)
    (har : ((defArgs st).posonlyargs ++ (defArgs st).args).head? = some ar)
    (h0 : X.N[0]? = some ar.arg) (hs0 : σ[0]? = some (some (V.ref a))) (ha : H a = some (exo a C none))
    (he : PE X e te) (h2 : PS X st2 t2) (hq : te σ H fun x H1 => [x].length ≤ 1 ∧ H1 a = some (exo a C none) ∧ t2 D σ H1) {pl : Sem Bool}
    (hform : eval (.Call (.Attribute (.Call (.Name "super" p0) [] [] p1) "__init__" p2) [e] [] p3) X.env = (do
      let ov ← attributeBase (.Call (.Name "super" p0) [] [] p1) "__init__" X.env (eval (.Call (.Name "super" p0) [] [] p1) X.env)
      standAt p2.atName
      let (g, first) ← holding [ov] (getMethod ov "__init__" pl)
      callWith p3 g first (backTo p3 (starEach [e] X.env)) []) := by rfl)
    (hse : starEach [e] X.env = (false, eval e X.env) :: starEach [] X.env := by rfl) (hi : interactive X.env = false := by rfl) :
    _root_.PySem.wpAt (model X.prog X.w) X.A (.func body X.env)
      (execs [.Expr (.Call (.Attribute (.Call (.Name "super" p0) [] [] p1) "__init__" p2) [e] [] p3) p4, st2] X.env) (SP X [] D) X.xe s := by
  refine ks_wpAt_execs_cons (ks_wpAt_Expr_any ?_ hi)
  refine _root_.PySem.wpAt_mono (super_init (Q := fun H1 => t2 D σ H1) T I henv hks hkc hka har h0 hs0 ha he hq hform hse) (fun v s' hh => ?_) fun _ _ z => z
  obtain ⟨H1, I1, q⟩ := hh
  exact _root_.PySem.wpAt_of_wpAny ((pss_one h2).run [] s' σ H1 D I1 q)

theorem form_of (env : Env) {p0 p1 p2 p3 q4 : Pos} {ps : List Expr} (hln : (p2.endLine == p3.line) = true) : eval (.Call (.Attribute (.Call (.Name "super" p0) [] [] p1) "__init__" p2) [.JoinedStr ps q4] [] p3) env = (do
      let ov ← attributeBase (.Call (.Name "super" p0) [] [] p1) "__init__" env (eval (.Call (.Name "super" p0) [] [] p1) env)
      standAt p2.atName
      let (g, first) ← holding [ov] (getMethod ov "__init__" (do return (← importBound (.Call (.Name "super" p0) [] [] p1) env).getD true))
      callWith p3 g first (backTo p3 (starEach [.JoinedStr ps q4] env)) []) := by
  have hp : methodCallPos true (.Call (.Name "super" p0) [] [] p1) env p2 p3 = pure p3 := by
    unfold methodCallPos
    rw [hln]
    rfl
  show (do
    let ov ← attributeBase (.Call (.Name "super" p0) [] [] p1) "__init__" env (eval (.Call (.Name "super" p0) [] [] p1) env)
    standAt p2.atName
    let (g, first) ← holding [ov] (getMethod ov "__init__" (do return (← importBound (.Call (.Name "super" p0) [] [] p1) env).getD true))
    let cp ← methodCallPos true (.Call (.Name "super" p0) [] [] p1) env p2 p3
    callWith cp g first (backTo p3 (starEach [.JoinedStr ps q4] env)) []) = _
  rw [hp]
  rfl
theorem lit_small {lit : Str} (hl : lit.length ≤ 1000) : (Str.empty ++ lit).length ≤ 1000 := by
  rw [Str.length_append]
  exact Nat.le_trans (Nat.le_of_eq (Nat.zero_add _)) hl
theorem err_int {lit : Str} {j : Nat} {q1 q2 q3 q4 p0 p1 p2 p3 p4 r1 r2 r3 r4 : Pos} {ar : Arg} (T : ErrTxt P K mg C f cda cc qual st)
    (hbd : defBody st = [.Expr (.Call (.Attribute (.Call (.Name "super" p0) [] [] p1) "__init__" p2) [.JoinedStr [.Constant (.str lit) j q1, .FormattedValue (.Name pn q2) (-1) none q3] q4] [] p3) p4,
      .Assign [.Attribute (.Name "self" r1) pn r2] (.Name pn r3) r4]) (hln : (p2.endLine == p3.line) = true)
    (S : NScope ["self", pn, "__class__"] ["self", pn] ["__class__"] (defScope st))
    (hb : ∀ (oc : Value) (od an : Option Addr) (kV doc pm ct : Value) (us : List Value), us.length = 2 →
      bindArgs (PySem.W.fnX "__init__" qual (defArgs st) (defBody st) (defScope st) [("__class__", cc)] .none kV doc pm an (.ref cda) ct) ⟨us, []⟩ = pure ((["self", pn] : List Str).zip us))
    (hks : (defScope st).names.lookup ("super" : Str) = some .globalImplicit)
    (har : ((defArgs st).posonlyargs ++ (defArgs st).args).head? = some ar) (har2 : ar.arg = "self")
    (hd1 : (pn == ("__debug__" : Str)) = false) (hd2 : (pn == ("__classdict__" : Str)) = false)
    (hlit : lit.length ≤ 1000) (hno : PySem.W.findIn K (.ref C) pn = some none) :
    ∃ fd, FnOk P w K mg base CX0 2 f fd ["self", pn] (spErr C pn okInt) ∧ Binds K fd ["self", pn] [] := by
  refine sup_fn T S (fun vs H Q E h => ?_) hb fun A outer s H vs Q E hsp hroom s1 I => ?_
  · obtain ⟨a, v, rfl, _⟩ := h
    rfl
  · obtain ⟨a, v, rfl, ha, ⟨i, rfl, hi⟩, hQ⟩ := hsp
    have vN : Vis (ncx CX0 P w K mg base ["self", pn, "__class__"] (supNF qual st cda cc) f A outer s H E).env.scope pn := .inl (S.par _ (by simp))
    have vS : Vis (ncx CX0 P w K mg base ["self", pn, "__class__"] (supNF qual st cda cc) f A outer s H E).env.scope "self" := .inl (S.par _ (by simp))
    rw [hbd]
    refine two_run (te := fun σ H Q => tJs [tC (.str lit), tFmt (tVar 1)] Str.empty σ H fun out H1 => Q (.str out) H1) T I rfl hks (S.frk _ (by simp)) (by rw [har2]; exact S.par _ (by simp)) har (by rw [har2]; rfl) rfl ha
      (pe_joined (.cons pe_str (.cons (pe_fmt (pe_var (i := 1) rfl vN hd1 hd2)) .nil)))
      (ps_ost (pe_var (i := 0) rfl vS) (pe_var (i := 1) rfl vN hd1 hd2)) ?_ (form_of _ hln) (by rfl) (by show ((defScope st).kind == _ && _) = false; rw [S.kind]; rfl)
    have e0 := lit_small hlit
    have e1 := int_text_length_le (k := 1920) (by decide) hi
    refine ⟨lit, rfl, by rw [sizeLine_eq]; omega, _, rfl, .inr ⟨i, rfl, hi, Str.ofString (toString i), rfl, ?_, Nat.le_refl _, ha, ?_⟩⟩
    · rw [Str.length_append, PySem.ofString_length, sizeLine_eq]
      omega
    · exact ⟨_, rfl, _, rfl, a, C, rfl, T.oex, hno, .inl ⟨ha, fun dx h1 h2 => hQ dx h1 h2⟩⟩
/-- the same where the argument is a text, shown by its repr -/
theorem err_txt {lit : Str} {j : Nat} {q1 q2 q3 q4 p0 p1 p2 p3 p4 r1 r2 r3 r4 : Pos} {ar : Arg} (T : ErrTxt P K mg C f cda cc qual st)
    (hbd : defBody st = [.Expr (.Call (.Attribute (.Call (.Name "super" p0) [] [] p1) "__init__" p2) [.JoinedStr [.Constant (.str lit) j q1, .FormattedValue (.Name pn q2) 114 none q3] q4] [] p3) p4,
      .Assign [.Attribute (.Name "self" r1) pn r2] (.Name pn r3) r4]) (hln : (p2.endLine == p3.line) = true)
    (S : NScope ["self", pn, "__class__"] ["self", pn] ["__class__"] (defScope st))
    (hb : ∀ (oc : Value) (od an : Option Addr) (kV doc pm ct : Value) (us : List Value), us.length = 2 →
      bindArgs (PySem.W.fnX "__init__" qual (defArgs st) (defBody st) (defScope st) [("__class__", cc)] .none kV doc pm an (.ref cda) ct) ⟨us, []⟩ = pure ((["self", pn] : List Str).zip us))
    (hks : (defScope st).names.lookup ("super" : Str) = some .globalImplicit)
    (har : ((defArgs st).posonlyargs ++ (defArgs st).args).head? = some ar) (har2 : ar.arg = "self")
    (hd1 : (pn == ("__debug__" : Str)) = false) (hd2 : (pn == ("__classdict__" : Str)) = false)
    (hlit : lit.length ≤ 1000) (hno : PySem.W.findIn K (.ref C) pn = some none) :
    ∃ fd, FnOk P w K mg base CX0 2 f fd ["self", pn] (spErr C pn okTxt) ∧ Binds K fd ["self", pn] [] := by
  refine sup_fn T S (fun vs H Q E h => ?_) hb fun A outer s H vs Q E hsp hroom s1 I => ?_
  · obtain ⟨a, v, rfl, _⟩ := h
    rfl
  · obtain ⟨a, v, rfl, ha, ⟨y, rfl, hy⟩, hQ⟩ := hsp
    have vN : Vis (ncx CX0 P w K mg base ["self", pn, "__class__"] (supNF qual st cda cc) f A outer s H E).env.scope pn := .inl (S.par _ (by simp))
    have vS : Vis (ncx CX0 P w K mg base ["self", pn, "__class__"] (supNF qual st cda cc) f A outer s H E).env.scope "self" := .inl (S.par _ (by simp))
    rw [hbd]
    refine two_run (te := fun σ H Q => tJs [tC (.str lit), tFmtR (tVar 1)] Str.empty σ H fun out H1 => Q (.str out) H1) T I rfl hks (S.frk _ (by simp)) (by rw [har2]; exact S.par _ (by simp)) har (by rw [har2]; rfl) rfl ha
      (pe_joined (.cons pe_str (.cons (pe_fmtR (pe_var (i := 1) rfl vN hd1 hd2)) .nil)))
      (ps_ost (pe_var (i := 0) rfl vS) (pe_var (i := 1) rfl vN hd1 hd2)) ?_ (form_of _ hln) (by rfl) (by show ((defScope st).kind == _ && _) = false; rw [S.kind]; rfl)
    have e0 := lit_small hlit
    refine ⟨lit, rfl, by rw [sizeLine_eq]; omega, _, rfl, .inl ⟨y, rfl, by rw [sizeLine_eq]; omega, reprText y, rfl, ?_, Nat.le_refl _, ha, ?_⟩⟩
    · rw [Str.length_append, sizeLine_eq]
      omega
    · exact ⟨_, rfl, _, rfl, a, C, rfl, T.oex, hno, .inl ⟨ha, fun dx h1 h2 => hQ dx h1 h2⟩⟩
end

/-! ### an own error, ready to be raised and caught -/
structure ErrOk (P : Program) (w : World) (K : PySem.W.Frag) (mg : Str → Option Value) (base : Heap) (nm : Str) (C : Addr) (fl : Str) (ok : V → Prop) : Prop where
  oex : OexC K C
  xf : XfC K C
  g : mg nm = some (.ref C)
  no : PySem.W.findIn K (.ref C) fl = some none
  te : PySem.W.exmOne K (.ref C) (.ref C) = some true
  run : ∃ (f : Addr) (fd : FuncData), PySem.W.findIn K (.ref C) "__init__" = some (some (.ref f)) ∧ PySem.W.typeIn K (.ref f) = some (.type "function") ∧
    FnOk P w K mg base CX0 2 f fd ["self", fl] (spErr C fl ok) ∧ Binds K fd ["self", fl] []

section
variable {X : Cx} {nm : Str} {C : Addr} {fl : Str} {ok : V → Prop} {e : Expr} {ta : TA} {p pos pos2 : Pos} {W : WX}
/-- raise nm(e) -/
def tErr (C : Addr) (fl : Str) (ok : V → Prop) (ta : TA) (W : WX) : TS := fun _ σ H => tMkO C (spErr C fl ok) [] ta σ H fun cls d H' => W cls d σ H'
theorem ps_err (R : ErrOk X.prog X.w X.K X.mg X.base nm C fl ok) (hc : X.calm = true) (tk : Takes X W) (hr : Room 3 X.A) (ha : PA X [e] ta) (hg : Gl X nm)
    (hdb : (nm == ("__debug__" : Str)) = false := by decide) (he : starEach [e] X.env = (false, eval e X.env) :: starEach [] X.env := by rfl) (hpl : (backTo pos (starEach [] X.env)).any (·.1) = false := by rfl) :
    PS X (.Raise (some (.Call (.Name nm p) [e] [] pos)) none pos2) (tErr C fl ok ta W) := by
  obtain ⟨f, fd, h1, h2, h3, h4⟩ := R.run
  exact ps_raise hc tk (pmk_oex R.oex h1 h2 h3 hr h4 .nil pass0 hg R.g ha hdb he hpl)
/-- what such a raise asks: the argument is fit, and every way out is met -/
theorem err_way {H1 : Hp} {v : V} {Q : XK} (hv : ok v) (h : ∀ d, H1 d = none → Q (.ref C) (some d) (upd H1 d (.xd [(fl, v)]))) :
    [v].length ≤ 1000 ∧ ∀ a, H1 a = none → spErr C fl ok (.ref a :: ([v] ++ [])) (upd H1 a (exo a C none))
      (fun r H2 => r = .non ∧ ∃ (d : Addr) (fs : List (Str × V)), H2 a = some (exo a C (some d)) ∧ H2 d = some (exd d fs) ∧ H1 d = none ∧ Q (.ref C) (some d) (upd (del H2 a) d (.xd fs))) (fun _ _ _ => False) := by
  refine ⟨by show 1 ≤ 1000; omega, fun a hn => ⟨a, v, rfl, upd_same, hv, fun dx hdx hne => ⟨rfl, dx, _, upd_same, by rw [upd_ne hne, upd_same], ?_, ?_⟩⟩⟩
  · rw [upd_ne hne] at hdx
    exact hdx
  · have hd1 : H1 dx = none := by
      rw [upd_ne hne] at hdx
      exact hdx
    have e : upd (del (upd (upd (upd H1 a (exo a C none)) dx (exd dx [(fl, v)])) a (exo a C (some dx))) a) dx (.xd [(fl, v)]) = upd H1 dx (.xd [(fl, v)]) := by
      funext b
      by_cases hb : b = dx
      · rw [hb, upd_same, upd_same]
      · rw [upd_ne hb, upd_ne hb]
        by_cases hba : b = a
        · rw [hba, del_same, hn]
        · rw [del_ne hba, upd_ne hba, upd_ne hb, upd_ne hba]
    rw [e]
    exact h dx hd1
end
end Sup

/-! The text of a list, whatever is under way: some text of bounded length. -/
namespace Txs
open PySem PySem.Spec PyProof.Rows
section
variable {prog : Program} {w : World}
/-- the text of an item: some text of at most m signs; what stands in h0 is kept by whoever asks -/
def Tx (prog : Program) (w : World) (h0 : Heap) (m : Nat) (x : Value) : Prop :=
  ∀ (b : Nat), b + m ≤ sizeLine → ∀ (A : Around) (E : Value → Shared → Prop) (s : Shared) (Q : Str → Shared → Prop), A.units + 4 < cLine →
    (∀ c o, h0.get? c = some o → s.heap.get? c = some o) → (∀ (t : Str) (tk : Tok), t.length ≤ m → Q t { s with toks := tk }) → wpAny (model prog w) A (pyReprUnder b x) Q E s
theorem Tx.int {h0 : Heap} {i : Int} (t : Tok) (hi : i.natAbs.log2 < 1920) : Tx prog w h0 1921 (.int i t) := by
  intro b hb A E s Q _ _ h
  have e := int_text_length_le (k := 1920) (by decide) hi
  have e2 : (Str.ofString (toString i)).length ≤ 1921 := by rw [PySem.ofString_length]; exact e
  exact ReprIs.int t hi b (by omega) A E s Q fun tk => h _ tk e2
theorem Tx.mono {h0 : Heap} {m n : Nat} {x : Value} (T : Tx prog w h0 m x) (hmn : m ≤ n) : Tx prog w h0 n x := fun b hb A E s Q hu hk h =>
  T b (by omega) A E s Q hu hk fun t tk ht => h t tk (by omega)
theorem way_len : ("(...)" : Str).length ≤ 5 := by decide +kernel
/-- a tuple of things whose texts are settled -/
theorem Tx.tup {h0 : Heap} {a : Addr} {o : Obj} {items : Array Value} {n : Nat} {ts : List Str} (ha : h0.get? a = some o) (hc : o.cls = .type "tuple") (hd : o.data = .seq items n) (hT : ReprAll prog w items.toList ts) :
    Tx prog w h0 ((tupleText ts).length + 5) (.ref a) := by
  intro b hb A E s Q hu hk h
  have ha' := hk _ _ ha
  refine wpAny_pyReprUnder_ref (by omega) (wpAny_pyReprObjUnder_twin (T := "tuple") (twin := "tuple.__repr__.under") ⟨o, ha', hc⟩ F.slot_tuple_repr rfl (by omega) ?_)
  refine call_twin_own (F.quiet_tuple_repr_under _) F.entry_tuple_repr_under F.check_tuple_repr_under ⟨o, ha', hc⟩ F.slot_tuple_repr (F.args_tuple_repr_1 _) (wpOwn_of_wpAny ?_)
  show wpAny _ _ (Builtin.tupleReprAt b ⟨[.ref a], []⟩) _ _ s
  rw [tuple_repr_tree]
  refine wpAny_bind (fmt_underWay fun c => ?_)
  cases c with
  | true =>
    refine PySem.W.KFB.if_so rfl (wpAny_bind (wpAny_rule (wpAny_bind (wpAny_mkStr (wpAny_pure ?_) (by decide +kernel)))))
    exact ⟨⟨_, _, rfl⟩, _, _, rfl, h "(...)" _ (Nat.le_trans way_len (Nat.le_add_left _ _))⟩
  | false =>
    refine PySem.W.KFB.if_not rfl (wpAny_tupleReprRest ha' hd hT (fun u tk => ?_) (by omega))
    exact ⟨⟨_, _, rfl⟩, _, _, rfl, h (tupleText ts) tk (Nat.le_add_right _ _)⟩
theorem piled_le {m : Nat} : ∀ {ts : List Str}, (∀ t ∈ ts, t.length ≤ m) → piled ts ≤ (m + 2) * ts.length
  | [], _ => Nat.zero_le _
  | t :: ts, h => by
    have h1 := h t List.mem_cons_self
    have h2 := piled_le (ts := ts) fun u hu => h u (List.mem_cons_of_mem _ hu)
    rw [piled_cons, List.length_cons, Nat.mul_succ]
    omega
theorem listText_le : ∀ ts : List Str, (listText ts).length ≤ piled ts + 2
  | [] => by
    show (listText []).length ≤ 2
    rw [listText_nil]
    decide +kernel
  | t :: r => by
    have h := textFrom_length_pos r 1 (("[" : Str) ++ (if (0 : Nat) > 0 then ", " else "" : String) ++ t) (Nat.succ_pos 0)
    have e : ((("[" : Str) ++ (if (0 : Nat) > 0 then ", " else "" : String) ++ t)).length = 1 + t.length := by
      rw [strLen_append, strLen_append]; rfl
    have e3 : (listText (t :: r)).length = (textFrom 1 (("[" : Str) ++ (if (0 : Nat) > 0 then ", " else "" : String) ++ t) r).length + 1 := by
      show (textFrom 1 _ r ++ "]").length = _
      rw [strLen_append]; rfl
    rw [e3, h, e, piled_cons]
    omega
variable {A : Around} {R : Result → Shared → Prop}
theorem units_loop (A : Around) (args : Args) : (A.under (.builtin "list.__repr__.loop" args)).units ≤ A.units + 1 := by
  have e : (A.under (.builtin "list.__repr__.loop" args)).units = A.units + 1 ∨ (A.under (.builtin "list.__repr__.loop" args)).units = A.units := by
    first
      | exact .inl rfl
      | exact .inr rfl
      | simp [Around.under, Code.cUnits, Code.frames, Code.isFrame]
  rcases e with e | e <;> omega
theorem run_loop {h0 : Heap} {a Pa : Addr} {items : Array Value} {m b : Nat} (hP0 : h0.get? Pa = none) (hT : ∀ (i : Nat) (x : Value), items[i]? = some x → Tx prog w h0 m x)
    (hsz : b + ((m + 2) * items.size + 2 + m) ≤ sizeLine) (hu : A.units + 5 < cLine) {oa : Obj} {na : Nat} (ha : h0.get? a = some oa) (hda : oa.data = .seq items na) :
    ∀ (k i : Nat) (s : Shared) (acc : Array Value) (c : Nat) (done : List (Str × Tok)), items.size - i = k → i ≤ items.size → (∀ c o, h0.get? c = some o → s.heap.get? c = some o) →
    s.heap.get? Pa = some { cls := .type "list", dict := none, data := .seq acc c, slots := #[] } → acc.toList = strValues done → done.length = i → (∀ p ∈ done, p.1.length ≤ m) →
    (∀ h' (t : Str) u tk, t.length ≤ (m + 2) * items.size + 2 → (∀ b o, b ≠ Pa → s.heap.get? b = some o → h'.get? b = some o) → R (.ok (.ret (.str t u))) { s with heap := h', toks := tk }) →
    codeAny (model prog w) A (.builtin "list.__repr__.loop" ⟨[.ref a, rawInt i, .ref Pa, rawInt ((b + piled (done.map (·.1)) : Nat) : Int)], []⟩) R s := by
  intro k
  induction k with
  | zero =>
    intro i s acc c done hk hi hk0 hP hacc hdone hm hR
    have hin : i = items.size := by omega
    refine codeAny_builtin F.entry_list_repr_loop ?_
    show wpAny _ _ (Builtin.«list.__repr__.loop» ⟨[.ref a, .int i 0, .ref Pa, .int ((b + piled (done.map (·.1)) : Nat) : Int) 0], []⟩) _ _ s
    rw [repr_loop_tree]
    refine wpAny_bind (wpAny_listItems (hk0 _ _ ha) hda ?_)
    have hnone : items[(i : Int).toNat]? = none := by simp [hin]
    simp only [hnone]
    unfold reprEnd
    refine wpAny_bind (wpAny_listItems hP rfl ?_)
    rw [hacc, repr_fold]
    have hpl := piled_le (m := m) (ts := done.map (·.1)) fun t ht => by
      obtain ⟨p, hp, rfl⟩ := List.mem_map.mp ht
      exact hm p hp
    have hlt := listText_le (done.map (·.1))
    rw [List.length_map, hdone, hin] at hpl
    refine wpAny_bind (wpAny_pure (wpAny_bind (wpAny_mkStr (wpAny_pure ?_) (show (listText (done.map (·.1))).length ≤ sizeLine by omega))))
    exact hR s.heap (listText (done.map (·.1))) _ _ (by omega) (fun _ _ _ e => e)
  | succ k ih =>
    intro i s acc c done hk hi hk0 hP hacc hdone hm hR
    have hlt : i < items.size := by omega
    have hrep := hT i items[i] (by simp [hlt])
    have hpl := piled_le (m := m) (ts := done.map (·.1)) fun t ht => by
      obtain ⟨p, hp, rfl⟩ := List.mem_map.mp ht
      exact hm p hp
    rw [List.length_map, hdone] at hpl
    have hmul : (m + 2) * i ≤ (m + 2) * items.size := Nat.mul_le_mul_left _ hi
    refine codeAny_builtin F.entry_list_repr_loop ?_
    show wpAny _ _ (Builtin.«list.__repr__.loop» ⟨[.ref a, .int i 0, .ref Pa, .int ((b + piled (done.map (·.1)) : Nat) : Int) 0], []⟩) _ _ s
    rw [repr_loop_tree]
    refine wpAny_bind (wpAny_listItems (hk0 _ _ ha) hda ?_)
    have hsome : items[(i : Int).toNat]? = some items[i] := by simp [hlt]
    simp only [hsome]
    rw [Int.toNat_natCast]
    have hul := units_loop A ⟨[.ref a, .int i 0, .ref Pa, .int ((b + piled (done.map (·.1)) : Nat) : Int) 0], []⟩
    refine wpAny_bind (wpAny_holding (hrep (b + piled (done.map (·.1)) + 1) (by omega) _ _ _ _ (Nat.lt_of_le_of_lt (Nat.add_le_add_right hul 4) (by omega)) hk0 fun t tk ht => ?_))
    refine wpAny_bind (wpAny_mkStr ?_ (show t.length ≤ sizeLine by omega))
    refine wpAny_bind ?_
    show wpAny _ _ (updateSeq Pa _) _ _ _
    have hasz : acc.size ≤ sizeLine := by
      have e1 : acc.toList.length = acc.size := by simp
      have e2 : (strValues done).length = done.length := by simp [strValues]
      have e3 : i ≤ (m + 2) * items.size := Nat.le_trans hi (Nat.le_mul_of_pos_left _ (by omega))
      rw [hacc] at e1; omega
    refine wpAny_updateSeq hP rfl (wpAny_pure ⟨F.quiet_list_repr_loop _, ?_⟩) hasz
    have e1 : ((i : Int) + 1) = ((i + 1 : Nat) : Int) := by omega
    have e2 : b + piled (done.map (·.1)) + (t.length + 2) = b + piled ((done ++ [(t, tk)]).map (·.1)) := by
      rw [List.map_append, piled_append]
      simp [piled]
      omega
    rw [e1]
    show codeAny _ _ (.builtin "list.__repr__.loop" ⟨[.ref a, rawInt ((i + 1 : Nat) : Int), .ref Pa, rawInt ((b + piled (done.map (·.1)) + (t.length + 2) : Nat) : Int)], []⟩) _ _
    rw [e2]
    have nP : ∀ c o, h0.get? c = some o → Pa ≠ c := fun c o e z => by
      rw [z, e] at hP0
      cases hP0
    refine ih (i + 1) _ (acc.push (.str t tk)) _ (done ++ [(t, tk)]) (by omega) hlt (fun c o e => (Heap.get?_update_other _ _ (nP c o e)).trans (hk0 c o e)) (Heap.get?_update_self _ hP rfl) (by simp [hacc, strValues]) (by rw [List.length_append, hdone]; rfl)
      (fun p hp => ?_) fun h' t' u tk' ht' hh => ?_
    · rcases List.mem_append.mp hp with z | z
      · exact hm p z
      · rw [List.mem_singleton.mp z]
        exact ht
    · exact hR h' t' u tk' ht' fun b o hb e => hh b o hb ((Heap.get?_update_other _ _ (fun z : Pa = b => hb z.symm)).trans e)
end
section
variable {prog : Program} {w : World} {A : Around} {E : Value → Shared → Prop} {s : Shared}
/-- {xs}, a list: some text -/
theorem fmt_list {a : Addr} {items : Array Value} {n m : Nat} {Q : Value → Shared → Prop} (hu : A.units + 8 < cLine) (ha : s.heap.get? a = some { cls := .type "list", data := .seq items n })
    (hT : ∀ (i : Nat) (x : Value), items[i]? = some x → Tx prog w s.heap m x) (hsz : (m + 2) * items.size + 2 + m ≤ sizeLine)
    (h : ∀ h' (t : Str) (u : Tok) tk, t.length ≤ (m + 2) * items.size + 5 → (∀ b o, s.heap.get? b = some o → h'.get? b = some o) → Q (.str t u) { s with heap := h', toks := tk }) : wpAny (model prog w) A (formatField (.ref a) Str.empty) Q E s := by
  refine wpAny_formatField_slot (T := "list") (idr := "list.__repr__") (fun _ _ => nofun) (by omega) ⟨_, ha, rfl⟩ F.slot_list_format F.slot_list_str F.slot_list_repr.toG ?_
  have hs0 : ({ s with toks := s.toks + 1 } : Shared).heap = s.heap := rfl
  refine wpAny_call (codeAny_call_builtin F.slot_list_repr.plain F.entry_list_repr (F.slot_list_repr.check _ _ _ _ _ _ _ _ ⟨_, ha, rfl⟩ (F.args_list_repr_1 _) ?_))
  show wpAny _ _ (Builtin.listReprAt 0 ⟨[.ref a], []⟩) _ _ { s with toks := s.toks + 1 }
  have fin : ∀ h' (t : Str) (u : Tok) tk, t.length ≤ (m + 2) * items.size + 5 → (∀ b o, s.heap.get? b = some o → h'.get? b = some o) → ∃ x t', Value.str t u = .str x t' ∧ Q (.str t u) { s with heap := h', toks := tk } :=
    fun h' t u tk h1 h2 => ⟨t, u, rfl, h h' t u tk h1 h2⟩
  unfold Builtin.listReprAt
  refine wpAny_bind (wpAny_of_eq (a := (Value.ref a, ([] : List Value))) (by first | rfl | (simp only [slotArgs]; rfl)) ?_)
  show wpAny _ _ (Builtin.List.listItems (.ref a) >>= _) _ _ { s with toks := s.toks + 1 }
  refine wpAny_bind (wpAny_listItems (s := { s with toks := s.toks + 1 }) ha rfl ?_)
  by_cases he : items.isEmpty = true
  · refine PySem.W.KFB.if_so he (wpAny_bind (wpAny_rule ?_))
    refine wpAny_bind (wpAny_mkStr (wpAny_pure ?_) (by decide +kernel))
    exact fin s.heap _ _ _ (Nat.le_trans (by decide +kernel : ("[]" : Str).length ≤ 5) (Nat.le_add_left _ _)) fun _ _ e => e
  · refine PySem.W.KFB.if_not (by simpa using he) ?_
    refine wpAny_bind (wpAny_stack_any fun st => ?_)
    dsimp only
    refine wpAny_ite_split (fun _ => ?_) (fun _ => ?_)
    · refine wpAny_bind (wpAny_rule ?_)
      refine wpAny_bind (wpAny_mkStr (wpAny_pure ?_) (by decide +kernel))
      exact fin s.heap _ _ _ (Nat.le_trans (by decide +kernel : ("[...]" : Str).length ≤ 5) (Nat.le_add_left _ _)) fun _ _ e => e
    · refine wpAny_bind (m := newList []) (wpAny_newObj_type ?_)
      refine wpAny_pure ⟨F.quiet_list_repr_loop _, ?_⟩
      have q := run_loop (prog := prog) (w := w) (A := A.in1.in1) (h0 := s.heap) (a := a) (Pa := s.heap.objs.size) (items := items) (m := m) (b := 0) (R := fun r s' => match r with
          | .ok (.ret v) => ∃ x t, v = Value.str x t ∧ Q v s'
          | .ok _ => False
          | .error e => E e s') (Heap.get?_none_of_le (Nat.le_refl _)) hT (by omega) (by show A.units + 2 + 5 < cLine; omega) ha rfl items.size 0
          { s with heap := s.heap.push { cls := .type "list", data := .seq #[] }, toks := s.toks + 1 } #[] 0 [] (by omega) (by omega) (fun c o e => Heap.get?_push_of_some _ e) (Heap.get?_push_size _ rfl) rfl rfl (fun p hp => absurd hp (by simp)) ?_
      · exact q
      · intro h' t u tk ht hk
        exact fin h' t u tk (by omega) fun b o e => hk b o (Nat.ne_of_lt (Heap.lt_size e)) (Heap.get?_push_of_some _ e)
end
end Txs
namespace Sup
open PySem PySem.Spec PyProof.Rows L2
/-- what a shown list may hold: whole numbers, tuples of whole numbers -/
def Shown (H : Hp) (xs : List V) : Prop := ∀ v ∈ xs, (∃ i : Int, v = .int i ∧ i.natAbs.log2 < 1920) ∨ ∃ (t : Addr) (ns : List Int), v = .ref t ∧ H t = some (.tup (ns.map V.int)) ∧ ns.length ≤ 10 ∧ ∀ i ∈ ns, i.natAbs.log2 < 1920
theorem reprs_int {prog : Program} {w : World} : ∀ {ns : List Int} {its : List Value}, Vals (ns.map V.int) its → (∀ i ∈ ns, i.natAbs.log2 < 1920) → ReprAll prog w its (ns.map fun i => Str.ofString (toString i))
  | [], _, r, _ => by
    cases r
    exact .nil
  | i :: ns, _, r, h => by
    cases r with
    | cons r1 r2 =>
      obtain ⟨t, rfl⟩ := r1
      exact .cons (ReprIs.int t (h i List.mem_cons_self)) (reprs_int r2 fun z hz => h z (List.mem_cons_of_mem _ hz))
def tFmtL (te : TE) : TE := fun σ H Q => te σ H fun x H1 => ∃ (a : Addr) (xs : List V), x = .ref a ∧ H1 a = some (.lst xs) ∧ xs.length ≤ 60 ∧ Shown H1 xs ∧ ∀ y : Str, y.length ≤ 2000000 → Q (.str y) H1
theorem pe_fmtL {X : Cx} {e : Expr} {te : TE} {pos : Pos} (hu : X.A.units + 64 < cLine) (he : PE X e te) : PE X (.FormattedValue e (-1) none pos) (tFmtL te) := by
  refine ⟨fun pins s σ H Q I h => ?_⟩
  refine wpAny_FormattedValue_plain (thn (he.run pins s σ H _ I h) fun v s1 hv => ?_)
  obtain ⟨x, H1, I1, r1, a, xs, rfl, ht, hlen, hsh, q⟩ := hv
  cases r1
  obtain ⟨_, its, n, rv, ho⟩ := (show ObjOk X.prog X.w H1 s1.heap a (.lst xs) from I1.hok a _ ht)
  have hl : its.length = xs.length := rv.length.symm
  have hsz : (20000 + 2) * its.toArray.size + 2 + 20000 ≤ sizeLine := by
    rw [List.size_toArray, hl, sizeLine_eq]
    omega
  refine Txs.fmt_list (m := 20000) (by omega) ho (fun i y hy => ?_) hsz fun h' t u tk htl hk => ⟨.str t, H1, I1.kept hk, ⟨u, rfl⟩, q t ?_⟩
  · have hy' : its[i]? = some y := by simpa using hy
    have hi : i < xs.length := by
      rw [← hl]
      exact (List.getElem?_eq_some_iff.mp hy').1
    obtain ⟨u, hu', ru⟩ := rv.get (List.getElem?_eq_getElem hi)
    rw [hy'] at hu'
    obtain rfl := Option.some.inj hu'
    rcases hsh _ (List.getElem_mem hi) with ⟨j, ej, hj⟩ | ⟨t, ns, et, htt, h10, hns⟩
    · rw [ej] at ru
      obtain ⟨tk, rfl⟩ := ru
      exact (Txs.Tx.int tk hj).mono (by decide)
    · rw [et] at ru
      obtain rfl : y = Value.ref t := ru
      obtain ⟨its2, r2, ⟨o, ho2, hc2, n2, hd2⟩, _⟩ := I1.tuple (.inl (.inl htt))
      have T := Txs.Tx.tup (prog := X.prog) (w := X.w) (h0 := s1.heap) ho2 hc2 hd2 (reprs_int r2 hns)
      refine T.mono ?_
      have h1 := fmt_text (ns.map fun i => Str.ofString (toString i))
      have h2 := Txs.piled_le (m := 1921) (ts := ns.map fun i => Str.ofString (toString i)) fun z hz => by
        obtain ⟨i, hi, rfl⟩ := List.mem_map.mp hz
        have e := int_text_length_le (k := 1920) (by decide) (hns i hi)
        rw [PySem.ofString_length]
        exact e
      rw [List.length_map] at h2
      have h3 : (1921 + 2) * ns.length ≤ (1921 + 2) * 10 := Nat.mul_le_mul_left _ h10
      omega
  · rw [List.size_toArray, hl] at htl
    omega
end Sup

namespace Sup
open PySem PySem.Spec PyProof.Rows L2 NdefX
/-- the form of super().__init__('..') -/
theorem form_const (env : Env) {p0 p1 p2 p3 q : Pos} {c : Const} {j : Nat} (hln : (p2.endLine == p3.line) = true) : eval (.Call (.Attribute (.Call (.Name "super" p0) [] [] p1) "__init__" p2) [.Constant c j q] [] p3) env = (do
      let ov ← attributeBase (.Call (.Name "super" p0) [] [] p1) "__init__" env (eval (.Call (.Name "super" p0) [] [] p1) env)
      standAt p2.atName
      let (g, first) ← holding [ov] (getMethod ov "__init__" (do return (← importBound (.Call (.Name "super" p0) [] [] p1) env).getD true))
      callWith p3 g first (backTo p3 (starEach [.Constant c j q] env)) []) := by
  have hp : methodCallPos true (.Call (.Name "super" p0) [] [] p1) env p2 p3 = pure p3 := by
    unfold methodCallPos
    rw [hln]
    rfl
  show (do
    let ov ← attributeBase (.Call (.Name "super" p0) [] [] p1) "__init__" env (eval (.Call (.Name "super" p0) [] [] p1) env)
    standAt p2.atName
    let (g, first) ← holding [ov] (getMethod ov "__init__" (do return (← importBound (.Call (.Name "super" p0) [] [] p1) env).getD true))
    let cp ← methodCallPos true (.Call (.Name "super" p0) [] [] p1) env p2 p3
    callWith cp g first (backTo p3 (starEach [.Constant c j q] env)) []) = _
  rw [hp]
  rfl
/-- an error without a field is made -/
def spErr0 (C : Addr) : Sp := fun vs H Q _ => ∃ a : Addr, vs = [.ref a] ∧ H a = some (exo a C none) ∧ Q .non H
/-- an error that keeps a copy of a list -/
def spErrL (C : Addr) (fl : Str) : Sp := fun vs H Q _ => ∃ (a l : Addr) (xs : List V), vs = [.ref a, .ref l] ∧ H a = some (exo a C none) ∧ H l = some (.lst xs) ∧ xs.length ≤ 60 ∧ Shown H xs ∧
  ∀ c dx, H c = none → H dx = none → dx ≠ a → c ≠ a → dx ≠ c → Q .non (upd (upd (upd H c (.lst xs)) dx (exd dx [(fl, .ref c)])) a (exo a C (some dx)))
section
variable {P : Program} {w : World} {K : PySem.W.Frag} {mg : Str → Option Value} {base : Heap} {C f cda cc : Addr} {qual pn : Str} {st : Stmt} {N : List Str}
theorem err_nil {lit : Str} {j : Nat} {q1 p0 p1 p2 p3 p4 : Pos} {ar : Arg} (T : ErrTxt P K mg C f cda cc qual st)
    (hbd : defBody st = [.Expr (.Call (.Attribute (.Call (.Name "super" p0) [] [] p1) "__init__" p2) [.Constant (.str lit) j q1] [] p3) p4]) (hln : (p2.endLine == p3.line) = true)
    (S : NScope ["self", "__class__"] ["self"] ["__class__"] (defScope st))
    (hb : ∀ (oc : Value) (od an : Option Addr) (kV doc pm ct : Value) (us : List Value), us.length = 1 →
      bindArgs (PySem.W.fnX "__init__" qual (defArgs st) (defBody st) (defScope st) [("__class__", cc)] .none kV doc pm an (.ref cda) ct) ⟨us, []⟩ = pure ((["self"] : List Str).zip us))
    (hks : (defScope st).names.lookup ("super" : Str) = some .globalImplicit)
    (har : ((defArgs st).posonlyargs ++ (defArgs st).args).head? = some ar) (har2 : ar.arg = "self") :
    ∃ fd, FnOk P w K mg base CX0 2 f fd ["self"] (spErr0 C) ∧ Binds K fd ["self"] [] := by
  refine sup_fn T S (fun vs H Q E h => ?_) hb fun A outer s H vs Q E hsp hroom s1 I => ?_
  · obtain ⟨a, rfl, _⟩ := h
    rfl
  · obtain ⟨a, rfl, ha, hQ⟩ := hsp
    rw [hbd]
    refine ks_wpAt_execs_cons (ks_wpAt_Expr_any ?_ (by show ((defScope st).kind == _ && _) = false; rw [S.kind]; rfl))
    refine _root_.PySem.wpAt_mono (super_init (Q := fun H1 => Q .non H1) T I rfl hks (S.frk _ (by simp)) (by rw [har2]; exact S.par _ (by simp)) har (by rw [har2]; rfl) rfl ha
      (pe_str (x := lit)) ⟨Nat.le_refl _, ha, hQ⟩ (form_const _ hln) (by rfl)) (fun v s' hh => ?_) fun _ _ z => z
    obtain ⟨H1, I1, q⟩ := hh
    exact _root_.PySem.wpAt_of_wpAny (pss_nil.run [] s' _ H1 { nx := fun _ H' => Q .non H', rt := Q } I1 q)
theorem err_lst {lit : Str} {j : Nat} {q1 q2 q3 q4 p0 p1 p2 p3 p4 r1 r2 r3 r4 r5 r6 : Pos} {ar : Arg} (T : ErrTxt P K mg C f cda cc qual st)
    (hbd : defBody st = [.Expr (.Call (.Attribute (.Call (.Name "super" p0) [] [] p1) "__init__" p2) [.JoinedStr [.Constant (.str lit) j q1, .FormattedValue (.Name pn q2) (-1) none q3] q4] [] p3) p4,
      .Assign [.Attribute (.Name "self" r1) pn r2] (.Call (.Name "list" r3) [.Name pn r4] [] r5) r6]) (hln : (p2.endLine == p3.line) = true)
    (S : NScope ["self", pn, "__class__"] ["self", pn] ["__class__"] (defScope st))
    (hb : ∀ (oc : Value) (od an : Option Addr) (kV doc pm ct : Value) (us : List Value), us.length = 2 →
      bindArgs (PySem.W.fnX "__init__" qual (defArgs st) (defBody st) (defScope st) [("__class__", cc)] .none kV doc pm an (.ref cda) ct) ⟨us, []⟩ = pure ((["self", pn] : List Str).zip us))
    (hks : (defScope st).names.lookup ("super" : Str) = some .globalImplicit)
    (har : ((defArgs st).posonlyargs ++ (defArgs st).args).head? = some ar) (har2 : ar.arg = "self")
    (hd1 : (pn == ("__debug__" : Str)) = false) (hd2 : (pn == ("__classdict__" : Str)) = false)
    (hlit : lit.length ≤ 1000) (hno : PySem.W.findIn K (.ref C) pn = some none)
    (hgl : (defScope st).names.lookup ("list" : Str) = some .globalImplicit) (hml : mg "list" = none) :
    ∃ fd, FnOk P w K mg base CX0 2 f fd ["self", pn] (spErrL C pn) ∧ Binds K fd ["self", pn] [] := by
  refine sup_fn T S (fun vs H Q E h => ?_) hb fun A outer s H vs Q E hsp hroom s1 I => ?_
  · obtain ⟨a, l, xs, rfl, _⟩ := h
    rfl
  · obtain ⟨a, l, xs, rfl, ha, hl, h60, hsh, hQ⟩ := hsp
    have vN : Vis (ncx CX0 P w K mg base ["self", pn, "__class__"] (supNF qual st cda cc) f A outer s H E).env.scope pn := .inl (S.par _ (by simp))
    have vS : Vis (ncx CX0 P w K mg base ["self", pn, "__class__"] (supNF qual st cda cc) f A outer s H E).env.scope "self" := .inl (S.par _ (by simp))
    rw [hbd]
    refine two_run (te := fun σ H Q => tJs [tC (.str lit), tFmtL (tVar 1)] Str.empty σ H fun out H1 => Q (.str out) H1) T I rfl hks (S.frk _ (by simp)) (by rw [har2]; exact S.par _ (by simp)) har (by rw [har2]; rfl) rfl ha
      (pe_joined (.cons pe_str (.cons (pe_fmtL hroom.units (pe_var (i := 1) rfl vN hd1 hd2)) .nil)))
      (ps_ost (pe_var (i := 0) rfl vS) (pe_callTy call_list_of hgl hml (by decide +kernel) (pa_cons (pe_var (i := 1) rfl vN hd1 hd2) pa_nil))) ?_ (form_of _ hln) (by rfl) (by show ((defScope st).kind == _ && _) = false; rw [S.kind]; rfl)
    have e0 := lit_small hlit
    refine ⟨lit, rfl, by rw [sizeLine_eq]; omega, _, rfl, l, xs, rfl, hl, h60, hsh, fun y hy => ⟨y, rfl, ?_, Nat.le_refl _, ha, ?_⟩⟩
    · rw [Str.length_append, sizeLine_eq]
      omega
    · refine ⟨_, rfl, l, xs, rfl, .inl (SqL.of hl), fun c hc => ?_⟩
      have nca : c ≠ a := fun z => by
        rw [z, ha] at hc
        cases hc
      refine ⟨_, rfl, a, C, rfl, T.oex, hno, .inl ⟨by rw [upd_ne (Ne.symm nca)]; exact ha, fun dx h1 h2 => ?_⟩⟩
      have ndc : dx ≠ c := fun z => by
        rw [z, upd_same] at h1
        cases h1
      rw [upd_ne ndc] at h1
      exact hQ c dx hc h1 h2 nca ndc
end
section
variable {X : Cx} {x : Str} {C fI : Addr} {k : Nat} {fd : FuncData} {ps : List Str} {sp : Sp} {e : Expr} {es : List Expr} {ta : TA} {p pos : Pos}
/-- what follows where an own error has just been made, for positional values vs in the heap H1 -/
structure MkV (C : Addr) (sp : Sp) (vs : List V) (H1 : Hp) (Q : VK) : Prop where
  few : vs.length ≤ 1000
  run : ∀ a, H1 a = none → sp (.ref a :: vs) (upd H1 a (exo a C none)) (fun v H2 => v = .non ∧ Q (.ref a) H2) (fun _ _ _ => False)
theorem run_mkV {pins : List (Addr × Obj)} {σ : L2.St} {H1 : Hp} {s1 : Shared} {us : List Value} {vs : List V} {Q : VK} (T : OexC X.K C) (iC : PySem.W.findIn X.K (.ref C) "__init__" = some (some (.ref fI))) (tI : PySem.W.typeIn X.K (.ref fI) = some (.type "function"))
    (F1 : FnOk X.prog X.w X.K X.mg X.base CX0 k fI fd ps sp) (hr : Room (k + 1) X.A) (hb : Binds X.K fd ps []) (I1 : L2.Inv X pins σ H1 s1) (r1 : Vals vs us) (h : MkV C sp vs H1 Q) :
    wpAny (model X.prog X.w) X.A (call (.ref C) us) (EP X pins σ Q) X.xe s1 := by
  obtain ⟨nm, q, N, bs, bm, sn, sub, ab, col, dd, k0, k1, k2, k3, k5, hC, hbm⟩ := T.cls
  obtain ⟨hz, q1⟩ := h
  obtain ⟨hp, g, dr, tk, os⟩ := s1
  have hsz : hp.objs.size ≤ hp.objs.size + 1 := Nat.le_succ _
  have hn : H1 (hp.objs.size + 1) = none := I1.hok.fresh hsz
  have hq := q1 (hp.objs.size + 1) hn
  have kk : ∀ b o, hp.get? b = some o → ((hp.push (PySem.W.kdv_tup us)).push (PySem.HandSPX.excO C hp.objs.size)).get? b = some o :=
    fun b o z => Heap.get?_push_of_some _ (Heap.get?_push_of_some _ z)
  have hget : ((hp.push (PySem.W.kdv_tup us)).push (PySem.HandSPX.excO C hp.objs.size)).get? (hp.objs.size + 1) = some (PySem.HandSPX.excO C hp.objs.size) := by heap_get
  have I2 : L2.Inv X pins σ (upd H1 (hp.objs.size + 1) (exo (hp.objs.size + 1) C none)) ⟨(hp.push (PySem.W.kdv_tup us)).push (PySem.HandSPX.excO C hp.objs.size), g, dr, tk, os⟩ :=
    I1.laid (t' := tk) (a := hp.objs.size + 1) (o := exo (hp.objs.size + 1) C none)
      (h' := (hp.push (PySem.W.kdv_tup us)).push (PySem.HandSPX.excO C hp.objs.size)) kk hsz (exo_ok hget)
  have r2 : Vals (V.ref (hp.objs.size + 1) :: vs) (Value.ref (hp.objs.size + 1) :: us) := .cons rfl r1
  have hl : (Value.ref (hp.objs.size + 1) :: us).length = ps.length := by
    have e := r2.length
    rw [F1.len _ _ _ _ hq] at e
    exact e.symm
  have hus : us.length ≤ sizeLine := by
    rw [← Paired.length r1, sizeLine_eq]
    omega
  have hbd := hb _ (Value.ref (hp.objs.size + 1) :: us) I2.kIn (by rw [List.append_nil]; exact hl)
  rw [List.append_nil] at hbd
  refine wpAny_call (PySem.HandSPX.call_own F.excBase_ValueError (fun Y => PySem.HandSPX.refsVE_contains Y bm hbm) (I1.kIn _ _ hC) (PySem.W.looks_findIn I1.kIn iC) (fun self => PySem.W.bind_fn I1.kIn self tI) hus
    (codeAny_mono (F1.run _ X.stack _ _ ⟨Value.ref (hp.objs.size + 1) :: us, []⟩ (Value.ref (hp.objs.size + 1) :: us) _ _ (fun _ _ _ => False) (hr.make C us []) (I2.env0.make C us []) hbd r2 hq) fun r s' hq' => ?_))
  cases r with
  | error er => exact False.elim hq'
  | ok fl =>
    cases fl with
    | ret u =>
      obtain ⟨v, H2, os2, bare2, un2, hok2, rv, ev, q2⟩ := hq'
      subst ev
      have J := I2.call' (s' := s') (ch := []) os2 un2 hok2 bare2 (fun b z => absurd z (by simp))
      exact ⟨rv, .ref (hp.objs.size + 1), H2, J, rfl, q2⟩
    | next => exact False.elim hq'
    | brk => exact False.elim hq'
    | cont => exact False.elim hq'
theorem pe_mkV (T : OexC X.K C) (iC : PySem.W.findIn X.K (.ref C) "__init__" = some (some (.ref fI))) (tI : PySem.W.typeIn X.K (.ref fI) = some (.type "function"))
    (F1 : FnOk X.prog X.w X.K X.mg X.base CX0 k fI fd ps sp) (hr : Room (k + 1) X.A) (hb : Binds X.K fd ps []) (hg : Gl X x) (hm : X.mg x = some (.ref C)) (ha : PA X (e :: es) ta)
    (hdb : (x == ("__debug__" : Str)) = false := by decide) (he : starEach (e :: es) X.env = (false, eval e X.env) :: starEach es X.env := by rfl) (hpl : (backTo pos (starEach es X.env)).any (·.1) = false := by rfl) :
    PE X (.Call (.Name x p) (e :: es) [] pos) (fun σ H Q => ta σ H fun vs H1 => MkV C sp vs H1 Q) := by
  refine ⟨fun pins s σ H Q I h => ?_⟩
  refine wpAny_Call_Name_kw (ld_glob I hg hm ?_ hdb)
  refine PySem.W.callWith_K (h₀ := X.base) I.ok.mod.kin T.kC
    (thn (ha.run pos pins s σ H _ I h) fun us s1 ⟨vs, H1, I1, r1, q⟩ => ⟨I1.kIn, ?_⟩) he hpl
  exact run_mkV T iC tI F1 hr hb I1 r1 q
theorem pe_mkV0 (T : OexC X.K C) (iC : PySem.W.findIn X.K (.ref C) "__init__" = some (some (.ref fI))) (tI : PySem.W.typeIn X.K (.ref fI) = some (.type "function"))
    (F1 : FnOk X.prog X.w X.K X.mg X.base CX0 k fI fd ps sp) (hr : Room (k + 1) X.A) (hb : Binds X.K fd ps []) (hg : Gl X x) (hm : X.mg x = some (.ref C))
    (hdb : (x == ("__debug__" : Str)) = false := by decide) : PE X (.Call (.Name x p) [] [] pos) (fun σ H Q => MkV C sp [] H Q) := by
  refine ⟨fun pins s σ H Q I h => ?_⟩
  refine wpAny_Call_Name_kw (ld_glob I hg hm ?_ hdb)
  exact PySem.W.callWith_K0 I.kIn T.kC (run_mkV (us := []) T iC tI F1 hr hb I .nil h)
/-- what stands at a is an error of the class at C with these fields -/
def ErrAt (H : Hp) (a C : Addr) (fs : List (Str × V)) : Prop := (H a = some (exo a C none) ∧ fs = []) ∨ ∃ d, H a = some (exo a C (some d)) ∧ H d = some (exd d fs)
theorem ErrAt.inst {pins : List (Addr × Obj)} {σ : L2.St} {H : Hp} {s : Shared} {a : Addr} {fs : List (Str × V)} (I : L2.Inv X pins σ H s) (h : ErrAt H a C fs) :
    ∃ (ox : Obj) (od : Option Obj), PySem.W.InstAt s.heap a ox C od := by
  rcases h with ⟨h, _⟩ | ⟨d, h, hd⟩
  · obtain ⟨t, ho⟩ := exo_at I.hok h
    exact ⟨_, none, ho, rfl, rfl, trivial⟩
  · obtain ⟨t, ho⟩ := exo_at I.hok h
    obtain ⟨mA, hns, _⟩ := exd_at I.hok hd
    obtain ⟨ob, hob, _⟩ := lookIn_ns hns
    exact ⟨_, some ob, ho, rfl, rfl, hob⟩
end
end Sup

namespace Sup
open PySem PySem.Spec PyProof.Rows L2
/-- an own error, ready to be made -/
structure MkE (P : Program) (w : World) (K : PySem.W.Frag) (mg : Str → Option Value) (base : Heap) (nm : Str) (C : Addr) (sp : Sp) (ps : List Str) : Prop where
  oex : OexC K C
  g : mg nm = some (.ref C)
  run : ∃ (f : Addr) (fd : FuncData), PySem.W.findIn K (.ref C) "__init__" = some (some (.ref f)) ∧ PySem.W.typeIn K (.ref f) = some (.type "function") ∧ FnOk P w K mg base CX0 2 f fd ps sp ∧ Binds K fd ps []
section
variable {X : Cx} {nm : Str} {C : Addr} {sp : Sp} {ps : List Str} {e : Expr} {es : List Expr} {ta : TA} {p pos : Pos}
theorem pe_err (M : MkE X.prog X.w X.K X.mg X.base nm C sp ps) (hr : Room 3 X.A) (hg : Gl X nm) (ha : PA X (e :: es) ta)
    (hdb : (nm == ("__debug__" : Str)) = false := by decide) (he : starEach (e :: es) X.env = (false, eval e X.env) :: starEach es X.env := by rfl) (hpl : (backTo pos (starEach es X.env)).any (·.1) = false := by rfl) :
    PE X (.Call (.Name nm p) (e :: es) [] pos) (fun σ H Q => ta σ H fun vs H1 => MkV C sp vs H1 Q) := by
  obtain ⟨f, fd, h1, h2, h3, h4⟩ := M.run
  exact pe_mkV M.oex h1 h2 h3 hr h4 hg M.g ha hdb he hpl
theorem pe_err0 (M : MkE X.prog X.w X.K X.mg X.base nm C sp ps) (hr : Room 3 X.A) (hg : Gl X nm)
    (hdb : (nm == ("__debug__" : Str)) = false := by decide) : PE X (.Call (.Name nm p) [] [] pos) (fun σ H Q => MkV C sp [] H Q) := by
  obtain ⟨f, fd, h1, h2, h3, h4⟩ := M.run
  exact pe_mkV0 M.oex h1 h2 h3 hr h4 hg M.g hdb
end
theorem ErrAt.same {H H' : Hp} {a C : Addr} {fs : List (Str × V)} (h : ErrAt H a C fs) (s : Same H H') : ErrAt H' a C fs := by
  rcases h with ⟨h, e⟩ | ⟨d, h, hd⟩
  · exact .inl ⟨s _ _ h, e⟩
  · exact .inr ⟨d, s _ _ h, s _ _ hd⟩
/-- another object is written -/
theorem ErrAt.upd {H : Hp} {a C p : Addr} {fs : List (Str × V)} {xs : List V} {o : HO} (h : ErrAt H a C fs) (hp : H p = some (.lst xs)) : ErrAt (upd H p o) a C fs := by
  have key : ∀ {b : Addr} {φ : Heap → Prop}, H b = some (.ext φ) → b ≠ p := fun {b φ} e z => by
    rw [z, hp] at e
    cases e
  rcases h with ⟨h, e⟩ | ⟨d, h, hd⟩
  · exact .inl ⟨by rw [upd_ne (key h)]; exact h, e⟩
  · exact .inr ⟨d, by rw [upd_ne (key h)]; exact h, by rw [upd_ne (key hd)]; exact hd⟩
theorem mk_one {C : Addr} {fl : Str} {ok : V → Prop} {v : V} {H1 : Hp} {Q : VK} (hv : ok v) (h : ∀ (a : Addr) (H2 : Hp), H1 a = none → Same H1 H2 → ErrAt H2 a C [(fl, v)] → Q (.ref a) H2) : MkV C (spErr C fl ok) [v] H1 Q := by
  refine ⟨by show 1 ≤ 1000; omega, fun a hn => ⟨a, v, rfl, upd_same, hv, fun dx hdx hne => ⟨rfl, h a _ hn (fun b o e => ?_) (.inr ⟨dx, upd_same, by rw [upd_ne hne, upd_same]⟩)⟩⟩⟩
  rw [upd_ne hne] at hdx
  rw [upd_ne (ne_of_none e hn), upd_ne (ne_of_none e hdx), upd_ne (ne_of_none e hn)]
  exact e
theorem mk_nil {C : Addr} {H1 : Hp} {Q : VK} (h : ∀ (a : Addr) (H2 : Hp), H1 a = none → Same H1 H2 → ErrAt H2 a C [] → Q (.ref a) H2) : MkV C (spErr0 C) [] H1 Q := by
  refine ⟨Nat.zero_le _, fun a hn => ⟨a, rfl, upd_same, rfl, h a _ hn (fun b o e => ?_) (.inl ⟨upd_same, rfl⟩)⟩⟩
  rw [upd_ne (ne_of_none e hn)]
  exact e
theorem mk_lst {C l : Addr} {fl : Str} {xs : List V} {H1 : Hp} {Q : VK} (hl : H1 l = some (.lst xs)) (h60 : xs.length ≤ 60) (hs : Shown H1 xs)
    (h : ∀ (a c : Addr) (H2 : Hp), H1 a = none → H1 c = none → Same H1 H2 → H2 c = some (.lst xs) → ErrAt H2 a C [(fl, .ref c)] → Q (.ref a) H2) : MkV C (spErrL C fl) [.ref l] H1 Q := by
  refine ⟨by show 1 ≤ 1000; omega, fun a hn => ⟨a, l, xs, rfl, upd_same, by rw [upd_ne (ne_of_none hl hn)]; exact hl, h60, fun v hv => ?_, fun c dx hc hdx n1 n2 n3 => ⟨rfl, h a c _ hn ?_ (fun b o e => ?_) ?_ (.inr ⟨dx, upd_same, by rw [upd_ne n1, upd_same]⟩)⟩⟩⟩
  · rcases hs v hv with z | ⟨t, ns, e, ht, r⟩
    · exact .inl z
    · exact .inr ⟨t, ns, e, by rw [upd_ne (ne_of_none ht hn)]; exact ht, r⟩
  · rw [upd_ne n2] at hc
    exact hc
  · rw [upd_ne n2] at hc
    rw [upd_ne n1] at hdx
    rw [upd_ne (ne_of_none e hn), upd_ne (ne_of_none e hdx), upd_ne (ne_of_none e hc), upd_ne (ne_of_none e hn)]
    exact e
  · rw [upd_ne n2, upd_ne (Ne.symm n3), upd_same]
/-- e.f, e an error that stands in the heap -/
def tEx (K : PySem.W.Frag) (n : Str) (te : TE) : TE := fun σ H Q => te σ H fun x H1 => ∃ (a C : Addr) (fs : List (Str × V)) (v : V), x = .ref a ∧ XfC K C ∧ PySem.W.findIn K (.ref C) n = some none ∧ ErrAt H1 a C fs ∧ fs.lookup n = some v ∧ Q v H1
theorem pe_ex {X : Cx} {e : Expr} {te : TE} {pos : Pos} {n : Str} (he : PE X e te) (hb : attributeBase e n X.env (eval e X.env) = eval e X.env := by rfl) : PE X (.Attribute e n pos) (tEx X.K n te) := by
  refine ⟨fun pins s σ H Q I h => attr_of hb (thn (he.run pins s σ H _ I h) fun u s1 hh => ?_)⟩
  obtain ⟨x, H1, I1, rx, a, C, fs, v, rfl, T, hno, hE, hl, q⟩ := hh
  obtain rfl : u = Value.ref a := rx
  rcases hE with ⟨_, e0⟩ | ⟨d, h1, h2⟩
  · rw [e0] at hl
    cases hl
  · obtain ⟨t, ho⟩ := exo_at I1.hok h1
    obtain ⟨mA, hns, hrel⟩ := exd_at I1.hok h2
    obtain ⟨od, hod, hlk⟩ := lookIn_ns hns
    obtain ⟨u, hu, ru⟩ := RelO.some_of (v := v) (o := mA n) (by rw [← hl]; exact hrel n)
    have J : PySem.W.InstAt s1.heap a _ C (some od) := ⟨ho, rfl, rfl, hod⟩
    exact HandSPX.exc_get I1.kIn J T.ga T.gg T.exC (PySem.W.findObj_own T.hdC hno rfl (by rw [hlk, hu])) (handed_of ru) ⟨v, H1, I1.tok _, ru, q⟩
end Sup

namespace Law
open PySem PySem.Spec PyProof.Rows L2 Sup
/-! isinstance of a caught error that has its own dict -/
section
open PySem.W
variable {prog : Program} {w : World} {A : Around} {E : Value → Shared → Prop} {s : Shared} {K : Frag} {x D : Addr} {ox : Obj} {od : Option Obj}
theorem find_data {C : Addr} {nm : Str} {a g : Value} (h1 : (clsIn K C).isSome = true) (h2 : findIn K (.ref C) nm = some (some a)) (h3 : specialIn K a "__get__" = some (some g)) (h4 : takesIn K a = some true) :
    findObj K C od nm = some (.bind g a) := by
  obtain ⟨cd, hcd⟩ := Option.isSome_iff_exists.mp h1
  simp [findObj, hcd, h2, h3, h4]
theorem class_of_err (T : ExcC K D) {Q : Option Value → Shared → Prop} (X : K.In s.heap) (I : InstAt s.heap x ox D od) (h : Q (some (.ref D)) { s with toks := s.toks + 1 }) :
    wpAny (model prog w) A (getAttr? (.ref x) "__class__") Q E s := by
  have isS : (clsIn K D).isSome = true := by
    obtain ⟨cd, hcd, _⟩ := any_some T.hd
    rw [hcd]; rfl
  have hf : findObj K D od "__class__" = some (.bind (.builtin "getset_descriptor.__get__") (.builtin "object.__class__")) :=
    find_data isS T.ha T.hn T.ht
  obtain ⟨hp, g, d, t, os⟩ := s
  have M0 := I.type (M := model prog w)
  have M1 := looks_findIn (M := model prog w) X T.hg
  have M2 := looks_findIn (M := model prog w) X T.hk
  have M3 := looks_find (M := model prog w) X I hf
  have sub : Looks (model prog w) hp (isInstance (.ref x) (.type "BaseException")) true := M0.andThen (looks_subIn X T.hs)
  have n0 : (false && onTheHeap (Value.builtin "BaseException.__getattribute__")) = false := rfl
  have n1 : (onTheHeap (Value.ref D) && Value.builtin "BaseException.__getattribute__" == Value.builtin "object.__getattribute__") = false := by
    have z : (Value.builtin "BaseException.__getattribute__" == Value.builtin "object.__getattribute__") = false := by decide +kernel
    rw [z]; rfl
  unfold getAttr? getAttrBy? getAttrBy
  refine wpAny_bind (wpAny_mkText (wpAny_bind (wpAny_attempt (wpAny_holding (wpAny_bind (M0.at (wpAny_bind (M1.at ?_))))))))
  show wpAny _ _ (if (onTheHeap (Value.ref D) && Value.builtin "BaseException.__getattribute__" == Value.builtin "object.__getattribute__") = true
    then _ else _) _ _ _
  rw [n1, if_neg Bool.false_ne_true]
  unfold getAttrByItsOwn hookBefore
  refine wpAny_bind ?_
  rw [if_pos (show onTheHeap (Value.ref D) = true from rfl)]
  refine M2.at ?_
  refine wpAny_bind (wpAny_attempt (wpAny_holding ?_))
  unfold callGetattribute
  rw [n0, if_neg Bool.false_ne_true]
  unfold boundAndCalled
  rw [PySem.F.excAttr_ValueError.ga.bind (.ref x)]
  refine wpAny_bind (wpAny_pure ?_)
  show wpAny _ _ (call (.builtin "BaseException.__getattribute__")
    [.ref x, .str "__class__" t]) _ _ _
  refine wpAny_call (codeAny_call_builtin PySem.F.excAttr_ValueError.ga.plain PySem.F.entry_bexc_ga ?_)
  refine @check_slot (model prog w) _ _ ⟨hp, g, d, t + 1, os⟩ "BaseException.__getattribute__" "BaseException" "__getattribute__" (.ref x)
    [.str "__class__" t] [] _ (by decide +kernel) (by decide +kernel) sub (PySem.F.args_bexc_ga (.ref x) (.str "__class__" t)) ?_
  unfold Builtin.«object.__getattribute__»
  refine wpAny_bind (wpAny_of_eq (a := ((Value.ref x : Value), [Value.str "__class__" t])) (by first | rfl | (simp only [slotArgs]; rfl)) ?_)
  refine wpAny_bind (wpAny_pure (wpAny_bind (M0.at (wpAny_bind (M3.at ?_)))))
  show wpAny _ _ (holding [Value.builtin "object.__class__"] (call (.builtin "getset_descriptor.__get__")
    [.builtin "object.__class__", .ref x, .ref D]) >>= ret) _ _ _
  refine wpAny_bind (wpAny_holding (wpAny_call (class_get (s := ⟨hp, g, d, t + 1, os⟩) (ox := ox) (od := od) X I T.hm ?_)))
  refine wpAny_pure ?_
  show wpAny _ _ (handedOut (.ref D)) _ _ _
  rw [handedOut_of (v := .ref D) rfl]
  first
    | exact wpAny_pure (wpAny_pure h)
    | exact wpAny_pure h
    | exact wpAny_pure (wpAny_bind (wpAny_pure (wpAny_pure h)))
theorem kit_err (T : ExcC K D) : KitX K (.ref x) (.ref D) (fun h => ∃ od, InstAt h x ox D od) where
  ty := fun _ _ _ ⟨_, I⟩ => I.type
  it := fun _ _ X _ => by
    obtain ⟨cdD, hcD, _⟩ := any_some T.hd
    unfold clsIn at hcD
    split at hcD
    · rename_i ho
      intro A' Q' E' s' k q
      unfold isType loadHead
      exact wpAny_bind (wpAny_loadPart (k _ _ (X _ _ ho)) (wpAny_pure q))
    · cases hcD
  ne := fun h tp dd its n sl X htp => by
    obtain ⟨cdD, hcD, _⟩ := any_some T.hd
    unfold clsIn at hcD
    split at hcD
    · rename_i ho
      refine Bool.eq_false_iff.mpr fun q => ?_
      have e : D = tp := Value.ref.inj (beq_iff_eq.mp q)
      subst e
      have z := (X _ _ ho).symm.trans htp
      cases z
    · cases hcD
  ca := fun X I k => by
    obtain ⟨od, I⟩ := I
    exact class_of_err T X I k
end
/-- isinstance(e, c), e the exception that the suite holds, its own dict at d -/
def rIsD (K : PySem.W.Frag) (D a : Addr) (cls : Value) (d : Option Addr) : List V → Hp → VK → Prop := fun xs H Q =>
  ∃ (c : V) (cv : Value) (b : Bool) (dd : Addr) (fs : List (Str × V)), xs = [.ref a, c] ∧ cls = .ref D ∧ d = some dd ∧ H dd = some (.xd fs) ∧ (∀ u, RelV c u → u = cv) ∧ PySem.W.kitOne K (.ref D) cv = some b ∧ Q (.bl b) H
theorem call_isD {X : Cx} {a D : Addr} {oe : Obj} {cls : Value} {d : Option Addr} {pn : List (Addr × Obj)} (T : ExcC X.K D) (hz : Zc cls d oe) (hf : ∃ vs, oe.data = .fields vs) :
    CallR (X.suite a ((a, oe) :: pn)) (.builtin "isinstance") (rIsD X.K D a cls d) := by
  intro pins s σ H xs us Q I r h
  obtain ⟨c, cv, b, dd, fs, rfl, rfl, rfl, hd, hcv, e, q⟩ := h
  cases r with
  | cons rx rr =>
    cases rr with
    | cons rt rr =>
      cases rr
      cases rx
      have ec := hcv _ rt
      subst ec
      obtain ⟨hget, _⟩ := I.pin (a, oe) (List.mem_append.mpr (.inl List.mem_cons_self))
      obtain ⟨vs, hv⟩ := hf
      obtain ⟨mA, hns, _⟩ := (show ObjOk X.prog X.w H s.heap dd (.xd fs) from I.hok dd _ hd)
      obtain ⟨ob, ho, _⟩ := lookIn_ns hns
      have J : ∃ od, PySem.W.InstAt s.heap a oe D od := ⟨some ob, hget, hz.1, by unfold PySem.W.notCls; rw [hv], by rw [hz.2]; exact ho⟩
      exact PySem.W.kia_one (kit_err T) I.kIn J e (fun z => nomatch z) fun tk => ⟨.bl b, H, I.kept (t' := tk) fun _ _ z => z, rfl, q⟩
end Law

/-! Operators, repr and call of instances of own classes. -/
namespace Own
open PySem PySem.Spec PyProof.Rows L2
section
variable {X : Cx} {CX : CXT} {k : Nat} {C g : Addr} {sp : Sp} {E : XK} {pins : List (Addr × Obj)} {σ : L2.St} {H : Hp} {s : Shared}
theorem not_ni {v : V} {u : Value} (r : RelV v u) : u ≠ .notImplemented := fun z => by
  subst z
  cases v <;> first | (cases r; done) | (obtain ⟨_, z⟩ := r; cases z; done) | (obtain ⟨_, z⟩ := r; nomatch z)
theorem back {Q : VK} {u : Value} {s' : Shared} (h : EP X pins σ Q u s') : PySem.W.CmpBack (EP X pins σ Q) u s' := by
  obtain ⟨v, H', I', rv, q⟩ := id h
  have n := not_ni rv
  cases u <;> first | exact h | exact absurd rfl n
/-- a promise of an own method, asked at other surroundings with the same frames -/
theorem run_at {A : Around} {Q : VK} {us : List Value} {vs : List V} (F : FnR X.prog X.w X.K X.mg X.base CX k g sp) (hr : Room k A) (hfr : A.frames = some X.stack) (hx : Passes CX X E) (I : Inv X pins σ H s) (r : Vals vs us) (h : sp vs H Q E) :
    wpAny (model X.prog X.w) A (call (.ref g) us) (EP X pins σ Q) X.xe s := by
  have e0 : Env0 X.prog X.w X.K X.mg X.base A X.stack s H := by
    have e := I.env0
    exact ⟨hfr, e.mod, e.bs, e.bsz, e.funs, e.frf, e.hok, e.bare⟩
  refine wpAny_call (codeAny_mono (F A X.stack s H us vs Q E hr e0 r h) fun r s' hq => ?_)
  cases r with
  | error e => exact hx pins σ H s e s' I hq
  | ok fl =>
    cases fl with
    | ret u => exact I.after hq
    | next => exact False.elim hq
    | brk => exact False.elim hq
    | cont => exact False.elim hq
/-- two instances of the class at C, and what the operator's def promises of them -/
def rOwn (C : Addr) (sp : Sp) (E : XK) : R2 := fun x y H Q => ∃ a b dx dy fs gs, x = .ref a ∧ y = .ref b ∧ H a = some (.ins C dx fs) ∧ H b = some (.ins C dy gs) ∧ sp [.ref a, .ref b] H Q E
theorem op_cmp {op : CmpOp} (hop : ∀ v u, compareOp op v u = richCompare op v u) (F : FnR X.prog X.w X.K X.mg X.base CX k g sp) (hs : PySem.W.findIn X.K (.ref C) (cmpInfo op).2.1 = some (some (.ref g))) (hf : PySem.W.isFn X.K (.ref g) = true)
    (hr : Room k X.A) (hx : Passes CX X E) : OpR X (compareOp op) (rOwn C sp E) := by
  intro pins s σ H x y v u Q I rx ry h
  obtain ⟨a, b, dx, dy, fs, gs, rfl, rfl, ha, hb, hsp⟩ := h
  cases rx
  cases ry
  obtain ⟨mA, J, _⟩ := ins_get I.hok ha
  obtain ⟨mB, J', _⟩ := ins_get I.hok hb
  obtain ⟨od, J, _⟩ := J.look
  obtain ⟨od', J', _⟩ := J'.look
  obtain ⟨m, hF⟩ := I.fr
  rw [hop]
  refine PySem.W.cmp_K (op := op) (tb := .ref C) hr.units0 hF I.ok.mod.kin J J'.type (by simp [PySem.W.notFirst]) hs hf ?_
  exact wpAny_mono (wpAny_call (run_fnR F hr hx I (us := [.ref a, .ref b]) (vs := [.ref a, .ref b]) (.cons rfl (.cons rfl .nil)) hsp)) (fun _ _ z => back z) fun _ _ z => z
theorem op_bin {op : Operator} (hop : ∀ v u : Value, PySem.binaryOp op v u = PySem.binaryOp op v u) (F : FnR X.prog X.w X.K X.mg X.base CX k g sp) (hs : PySem.W.findIn X.K (.ref C) (PySem.dunder op.info.2) = some (some (.ref g))) (hf : PySem.W.isFn X.K (.ref g) = true)
    (hc : PySem.W.selfFirst X.K C = true) (hr : Room k X.A) (hx : Passes CX X E) : OpR X (PySem.binaryOp op) (rOwn C sp E) := by
  intro pins s σ H x y v u Q I rx ry h
  obtain ⟨a, b, dx, dy, fs, gs, rfl, rfl, ha, hb, hsp⟩ := h
  cases rx
  cases ry
  obtain ⟨mA, J, _⟩ := ins_get I.hok ha
  obtain ⟨mB, J', _⟩ := ins_get I.hok hb
  obtain ⟨od, J, _⟩ := J.look
  obtain ⟨od', J', _⟩ := J'.look
  obtain ⟨m, hF⟩ := I.fr
  refine PySem.W.binop_K (op := op) hF I.ok.mod.kin J J'.type hc hs hf ?_
  exact wpAny_mono (wpAny_call (run_fnR F hr hx I (us := [.ref a, .ref b]) (vs := [.ref a, .ref b]) (.cons rfl (.cons rfl .nil)) hsp)) (fun _ _ z => back z) fun _ _ z => z
/-- repr of an instance -/
def rRepr (C : Addr) (sp : Sp) (E : XK) : List V → Hp → VK → Prop := fun xs H Q => ∃ a dx fs, xs = [.ref a] ∧ H a = some (.ins C dx fs) ∧ sp [.ref a] H (fun v H' => ∃ y, v = .str y ∧ Q v H') E
theorem call_repr (F : FnR X.prog X.w X.K X.mg X.base CX k g sp) (hs : PySem.W.findIn X.K (.ref C) "__repr__" = some (some (.ref g))) (hf : PySem.W.isFn X.K (.ref g) = true)
    (hr : Room (k + 1) X.A) (hx : Passes CX X E) : CallR X (.builtin "repr") (rRepr C sp E) := by
  intro pins s σ H xs us Q I r h
  obtain ⟨a, dx, fs, rfl, ha, hsp⟩ := h
  obtain ⟨u, rfl, r1⟩ : ∃ u, us = [u] ∧ RelV (.ref a) u := by
    cases r with
    | cons r1 rr =>
      cases rr
      exact ⟨_, rfl, r1⟩
  cases r1
  obtain ⟨mA, J, _⟩ := ins_get I.hok ha
  obtain ⟨od, J, _⟩ := J.look
  obtain ⟨m, hF⟩ := I.fr
  refine PySem.W.repr_K ?_ hF I.ok.mod.kin J hs hf (wpAny_mono (run_at F ?_ ?_ hx I (us := [.ref a]) (vs := [.ref a]) (.cons rfl .nil) hsp) (fun u s' z => ?_) fun _ _ z => z)
  · have := hr.un
    show X.A.units + 1 < _
    omega
  · exact hr.in1
  · exact I.env0.frames
  · obtain ⟨v, H', I', rv, y, rfl, q⟩ := z
    obtain ⟨t, rfl⟩ := rv
    exact ⟨.str y, H', I', ⟨t, rfl⟩, q⟩
/-! ### != by the own == -/
theorem ifBound_B {M : Model} {A : Around} {Er : Value → Shared → Prop} {s : Shared} {K : PySem.W.Frag} {x C : Addr} {ox : Obj} {od : Option Obj} {name : Str} {id : String} {args : List Value} {Q : Option Value → Shared → Prop} (X : K.In s.heap) (I : PySem.W.InstAt s.heap x ox C od)
    (hs : PySem.W.findIn K (.ref C) name = some (some (.builtin id))) (hb : ∀ self, bindSpecial (.builtin id) self = pure (.builtin id, [self]))
    (h : wpAny M A (call (.builtin id) (.ref x :: args)) (fun v => Q (some v)) Er s) : wpAny M A (callSpecialIfBound? (.ref x) name args) Q Er s := by
  simp only [callSpecialIfBound?, bindSpecialIfBound?]
  refine wpAny_holding (wpAny_bind (wpAny_bind (wpAny_bind (I.type.here ((PySem.W.looks_findIn X hs).here ?_)))))
  refine wpAny_bind (wpAny_askSetting (wpAny_ite ?_))
  have fin : wpAny M A (call (.builtin id) ([.ref x] ++ args) >>= fun v => pure (some v)) Q Er s := wpAny_bind (wpAny_mono h (fun v s' h' => wpAny_pure h') fun _ _ h' => h')
  split
  · exact wpAny_bind ((PySem.W.Looks.of_pure (hb _)).here (wpAny_pure (by exact fin)))
  · exact wpAny_tryCatch (wpAny_bind ((PySem.W.Looks.of_pure (hb _)).here (wpAny_pure (by exact fin))))
def rOwnNe (C : Addr) (sp : Sp) (E : XK) : R2 := fun x y H Q => ∃ a b dx dy fs gs, x = .ref a ∧ y = .ref b ∧ H a = some (.ins C dx fs) ∧ H b = some (.ins C dy gs) ∧ sp [.ref a, .ref b] H (fun v H' => ∃ t, v = .bl t ∧ Q (.bl (!t)) H') E
theorem op_ne (F : FnR X.prog X.w X.K X.mg X.base CX k g sp) (hs : PySem.W.findIn X.K (.ref C) "__eq__" = some (some (.ref g))) (hn : PySem.W.findIn X.K (.ref C) "__ne__" = some (some (.builtin "object.__ne__"))) (hm : PySem.W.mroIn X.K C (.type "object") = some true)
    (hf : PySem.W.isFn X.K (.ref g) = true) (hr : Room (k + 1) X.A) (hx : Passes CX X E) : OpR X (compareOp .NotEq) (rOwnNe C sp E) := by
  intro pins s σ H x y v u Q I rx ry h
  obtain ⟨a, b, dx, dy, fs, gs, rfl, rfl, ha, hb, hsp⟩ := h
  cases rx
  cases ry
  obtain ⟨mA, J, _⟩ := ins_get I.hok ha
  obtain ⟨mB, J', _⟩ := ins_get I.hok hb
  obtain ⟨od, J, _⟩ := J.look
  obtain ⟨od', J', _⟩ := J'.look
  have KI := I.kIn
  have hu1 : X.A.in1.units < cLine := by
    have := hr.un
    show X.A.units + 1 < _
    omega
  have one : wpAny (model X.prog X.w) X.A (tryCompare (.ref a) (cmpInfo .NotEq).2.1 (.ref b)) (fun r s' => ∃ v, r = some v ∧ EP X pins σ Q v s') X.xe s := by
    unfold tryCompare
    refine wpAny_bind (ifBound_B KI J hn PySem.F.cmp_object.ne.bind (wpAny_call (codeAny_call_builtin PySem.F.cmp_object.ne.plain PySem.F.cmpEntry_ne
      (PySem.W.check_slot PySem.F.cmpKind_ne PySem.F.cmpSplit_ne (J.type.andThen (PySem.W.looks_mroIn KI hm)) (PySem.F.cmpArgs_ne _ _) ?_))))
    unfold Builtin.«object.__ne__»
    refine wpAny_bind (m := slotArgs "__ne__" 1 _) (wpAny_pure ?_)
    refine wpAny_bind (m := cRoomFor _ _) (wpAny_cRoomFor hu1 ?_)
    refine wpAny_bind (m := callSpecialIfBound? (.ref a) (Str.ofString "__eq__") _) (PySem.W.ifBound_K KI J hs hf (wpAny_mono (run_at F hr.in1 I.env0.frames hx I (us := [.ref a, .ref b]) (vs := [.ref a, .ref b]) (.cons rfl (.cons rfl .nil)) hsp) (fun u s' z => ?_) fun _ _ z => z))
    obtain ⟨v, H', I', rv, t, rfl, q⟩ := z
    cases rv
    refine wpAny_bind (m := truthy (.bool t)) (wpAny_truthy_bool ?_)
    first
      | exact wpAny_pure (wpAny_pure ⟨_, rfl, .bl (!t), H', I', rfl, q⟩)
      | exact wpAny_pure ⟨_, rfl, .bl (!t), H', I', rfl, q⟩
  show wpAny _ _ (richCompare .NotEq (.ref a) (.ref b)) _ _ _
  unfold richCompare
  simp only [PySem.oneThing_ref]
  refine wpAny_holding (wpAny_bind (wpAny_cRoomFor hr.units0 ?_))
  refine wpAny_bind (J.type.here (wpAny_bind (J'.type.here ?_)))
  rw [if_neg (by simp)]
  refine wpAny_bind (wpAny_pure ?_)
  simp only [Bool.false_eq_true, if_false]
  refine wpAny_bind (wpAny_mono one (fun r s' z => ?_) fun _ _ e => e)
  obtain ⟨v, rfl, hq⟩ := z
  exact wpAny_pure hq
end
/-! ### a def that returns NotImplemented -/
section
variable {P : Program} {w : World} {K : PySem.W.Frag} {mg : Str → Option Value} {base : Heap}
/-- on values of which pre holds the def at f returns NotImplemented and changes nothing -/
def NiOk (P : Program) (w : World) (K : PySem.W.Frag) (mg : Str → Option Value) (base : Heap) (k : Nat) (f : Addr) (pre : List V → Hp → Prop) : Prop :=
  ∀ (A : Around) (outer : List Env) (s : Shared) (H : Hp) (us : List Value) (vs : List V), Room k A → Env0 P w K mg base A outer s H → Vals vs us → pre vs H →
    codeAny (model P w) A (.call (.ref f) ⟨us, []⟩) (fun r s' => r = .ok (.ret .notImplemented) ∧ CE outer P w H s (fun _ H' => H' = H) .none s') s
theorem ni_def {x qual : Str} {st : Stmt} {f : Addr} {fd : FuncData} {N ps : List Str} {k : Nat} {pre : List V → Hp → Prop} {t : Expr} {els rest : List Stmt} {p2 p3 p4 : Pos} (F : Fun K x qual st f fd) (S : FnScope N ps (defScope st)) (hb : Binds K fd ps [])
    (len : ∀ vs H, pre vs H → vs.length = ps.length) (hbd : defBody st = .If t [.Return (some (.Name "NotImplemented" p2)) p3] els p4 :: rest) (hg : (defScope st).names.lookup ("NotImplemented" : Str) = some .globalImplicit) (hm : mg "NotImplemented" = none)
    (htest : ∀ (cdv : Value) (A : Around) (outer : List Env) (s : Shared) (H : Hp) (vs : List V), Room k (A.deeper (envOfC qual (defScope st) s.heap.objs.size f cdv)) → pre vs H →
      ∃ tt, PT (cxOf CX0 P w K mg base N qual (defScope st) f cdv A outer s H (fun _ _ _ => False)).nox t tt ∧ tt (start N vs) H (fun b H' => b = true ∧ H' = H)) :
    NiOk P w K mg base (k + 1) f pre := by
  intro A outer s H us vs hr e0 r hp
  have hl := len _ _ hp
  have hbind := hb s us (e0.mod.kin.keeps fun b o e => (e0.bs b o e).1) (by rw [List.append_nil, ← r.length]; exact hl)
  rw [List.append_nil] at hbind
  obtain ⟨oc, od, kV, doc, pm, an, cdv, ct, osl, rfl, lk, hcd⟩ := F.ex
  have KX : K.In s.heap := e0.mod.kin.keeps fun b o e => (e0.bs b o e).1
  have lim : s.heap.NoLimit := e0.mod.nolimit.keeps fun b o e => (e0.bs b o e).1
  have hkind : ∀ y ∈ ps.zip us, (defScope st).names.lookup y.1 = some .local ∨ ((defScope st).names.lookup y.1 = some .cell ∧ ((cellsFrom (s.heap.objs.size + 1) (defScope st).names []).lookup y.1).isSome = true) := fun ⟨n, v⟩ hy => by
    rcases S.par n (List.of_mem_zip hy).1 with q | q
    · exact .inl q
    · exact .inr ⟨q, PySem.W.cellsFrom_some _ _ _ (.inl q)⟩
  refine codeAny_call_function hr.depth (KX _ _ lk) rfl S.co S.gen rfl (PySem.W.codeRec_of KX hcd) (hbind _ _ _ _ ?_)
  refine wpAny_newFunctionEnv_cells S.kind hkind fun env he s1 x => ?_
  subst he
  refine ⟨lim.keeps x.toInCall.keep, codeAny_func ?_⟩
  obtain ⟨tt, ht, hq⟩ := htest cdv A outer s H vs (hr.deeper _) hp
  have I : L2.Inv (cxOf CX0 P w K mg base N qual (defScope st) f cdv A outer s H (fun _ _ _ => False)) [] (start N vs) H s1 := inv_start S hr.hd e0 hl r x
  rw [hbd]
  refine wpAny_execs_cons (wpAny_If (wpAny_mono (ht.run [] s1 (start N vs) H _ (I.wish _) hq) (fun b s2 h2 => ?_) fun e s' z => False.elim z))
  obtain ⟨H2, I2, rfl, rfl⟩ := h2
  refine wpAny_execs_cons (wpAny_Return_some (ld_blt I2 hg hm (u := .notImplemented) (by decide +kernel) ?_))
  exact ⟨rfl, .non, _, I2.os, I2.bare, I2.base, I2.hok, rfl, rfl⟩
end
section
variable {X : Cx} {CX : CXT} {k : Nat} {C g : Addr} {sp : Sp} {E : XK} {pre : List V → Hp → Prop}
theorem int_eq_ref (a : Int) (t : Tok) (b C dx : Addr) : Meets (Builtin.«int.__eq__» ⟨[.int a t, .ref b], []⟩) (fun _ R s => s.heap.get? b = some (PySem.W.instObj C dx) ∧ R (.ok (.ret Value.notImplemented)) s) :=
  .of_wp fun prog w A R s h => by
    obtain ⟨hp, g, d, tk, os⟩ := s
    obtain ⟨hl, h⟩ := h
    wp_walk using wpAny_load' hl
    exact ⟨_, rfl, h⟩
/-- an instance == a whole number, where the own == declines -/
def rEqI (C : Addr) (pre : List V → Hp → Prop) : R2 := fun x y H Q => ∃ a dx fs i, x = .ref a ∧ y = .int i ∧ H a = some (.ins C dx fs) ∧ pre [.ref a, .int i] H ∧ Q (.bl false) H
theorem op_eqI (N : NiOk X.prog X.w X.K X.mg X.base k g pre) (hs : PySem.W.findIn X.K (.ref C) "__eq__" = some (some (.ref g))) (hf : PySem.W.isFn X.K (.ref g) = true) (hsub : PySem.W.subIn X.K (.type "int") (.ref C) = some false)
    (hr : Room k X.A) : OpR X (compareOp .Eq) (rEqI C pre) := by
  intro pins s σ H x y v u Q I rx ry h
  obtain ⟨a, dx, fs, i, rfl, rfl, ha, hp, q⟩ := h
  cases rx
  obtain ⟨t, rfl⟩ := ry
  obtain ⟨mA, J, _⟩ := ins_get I.hok ha
  obtain ⟨od, J, _⟩ := J.look
  have KI := I.kIn
  show wpAny _ _ (richCompare .Eq (.ref a) (.int i t)) _ _ _
  unfold richCompare
  simp only [PySem.oneThing_ref]
  refine wpAny_holding (wpAny_bind (wpAny_cRoomFor hr.units0 ?_))
  refine wpAny_bind (J.type.here (wpAny_bind ((PySem.W.Looks.of_pure (M := model X.prog X.w) (h := s.heap) (show typeOf (.int i t) = pure (.type "int") from rfl)).here ?_)))
  have hne : (Value.ref C != Value.type "int") = true := by
    have z : (Value.ref C == Value.type "int") = false := Bool.eq_false_iff.mpr fun q => by cases beq_iff_eq.mp q
    show (!(Value.ref C == Value.type "int")) = true
    rw [z]; rfl
  rw [if_pos hne]
  refine wpAny_bind ((PySem.W.looks_subIn KI hsub).here ?_)
  simp only [Bool.false_eq_true, if_false]
  refine wpAny_bind (m := tryCompare (.ref a) _ (.int i t)) ?_
  unfold tryCompare
  have cl : wpAny (model X.prog X.w) X.A (call (.ref g) [.ref a, .int i t]) (fun u s' => u = .notImplemented ∧ L2.Inv X pins σ H s') X.xe s := by
    refine wpAny_call (codeAny_mono (N X.A X.stack s H [.ref a, .int i t] [.ref a, .int i] hr I.env0 (.cons rfl (.cons ⟨t, rfl⟩ .nil)) hp) fun r s' z => ?_)
    obtain ⟨rfl, z⟩ := z
    obtain ⟨v, H', I', rv, e⟩ := I.after z
    rw [e] at I'
    exact ⟨rfl, I'⟩
  refine wpAny_bind (PySem.W.ifBound_K KI J hs hf (wpAny_mono cl (fun u s' z => ?_) fun _ _ z => z))
  obtain ⟨rfl, I'⟩ := z
  refine wpAny_pure ?_
  obtain ⟨mA', J', _⟩ := ins_get I'.hok ha
  obtain ⟨od', J', _⟩ := J'.look
  dsimp only
  refine wpAny_bind (m := tryCompare (.int i t) _ (.ref a)) ?_
  refine wpAny_tryCompare_declines (typeIs_int _ i t) PySem.F.slot_int_eq (call_meets PySem.F.slot_int_eq (typeIs_int _ i t) PySem.F.entry_int_eq (PySem.F.args_int_eq_2 _ _) (int_eq_ref i t a C dx) ⟨J'.at_, rfl, ?_⟩)
  dsimp only
  refine wpAny_bind (wpAny_rule (wpAny_bind (wpAny_isSame_plain (by rfl) (wpAny_pure ?_))))
  have z : (Value.ref a == Value.int i t) = false := Bool.eq_false_iff.mpr fun q => by cases beq_iff_eq.mp q
  rw [z]
  exact ⟨.bl false, H, I', rfl, q⟩
end
/-! ### x(e, ..) and x(), x a local name that holds an instance -/
section
variable {X : Cx} {CX : CXT} {k i : Nat} {C g : Addr} {sp : Sp} {E : XK} {x : Str} {e : Expr} {es : List Expr} {t : TA} {p pos : Pos}
theorem run_ins {pins : List (Addr × Obj)} {σ : L2.St} {H : Hp} {s : Shared} {Q : VK} {a dx : Addr} {fs : List (Str × V)} {us : List Value} {vs : List V} (c : StX.CallO X.K C g) (F : FnR X.prog X.w X.K X.mg X.base CX k g sp) (hr : Room k X.A) (hx : Passes CX X E) (I : L2.Inv X pins σ H s)
    (ha : H a = some (.ins C dx fs)) (r : Vals vs us) (h : sp (V.ref a :: vs) H Q E) : wpAny (model X.prog X.w) X.A (call (.ref a) us) (EP X pins σ Q) X.xe s := by
  obtain ⟨mA, J, _⟩ := ins_get I.hok ha
  obtain ⟨od, J, _⟩ := J.look
  exact wpAny_call (PySem.W.kco_code I.kIn J rfl c.at_ c.fn c.fi (run_fnR (us := .ref a :: us) (vs := .ref a :: vs) F hr hx I (.cons rfl r) h))
def tCallI (i : Nat) (C : Addr) (sp : Sp) (E : XK) (t : TA) : TE := fun σ H Q => ∃ a, σ[i]? = some (some (.ref a)) ∧ t σ H fun vs H1 => (∃ dx fs, H1 a = some (.ins C dx fs)) ∧ sp (V.ref a :: vs) H1 Q E
theorem pe_callI (c : StX.CallO X.K C g) (F : FnR X.prog X.w X.K X.mg X.base CX k g sp) (hr : Room k X.A) (hx : Passes CX X E) (hN : X.N[i]? = some x) (hv : Vis X.env.scope x) (ha : PA X (e :: es) t)
    (hd : (x == ("__debug__" : Str)) = false := by decide) (hcd : (x == ("__classdict__" : Str)) = false := by decide)
    (he : starEach (e :: es) X.env = (false, eval e X.env) :: starEach es X.env := by rfl) (hpl : (backTo pos (starEach es X.env)).any (·.1) = false := by rfl) : PE X (.Call (.Name x p) (e :: es) [] pos) (tCallI i C sp E t) := by
  refine ⟨fun pins s σ H Q I h => ?_⟩
  obtain ⟨a, hs, h⟩ := h
  refine wpAny_Call_Name_kw (thn ((pe_var (pos := p) (i := i) hN hv hd hcd).run pins s σ H (fun v H1 => v = .ref a ∧ H1 = H) I ⟨.ref a, hs, rfl, rfl⟩) fun u s1 ⟨v, H1, I1, r1, ev, eH⟩ => ?_)
  subst ev
  rw [eH] at I1
  cases r1
  refine StX.callO_with (thn (ha.run pos pins s1 σ H _ I1 h) fun us s2 ⟨vs, H2, I2, r, ⟨dx, fs, hi⟩, q2⟩ => ?_) he hpl
  obtain ⟨mA, J, _⟩ := ins_get I2.hok hi
  obtain ⟨od, J, _⟩ := J.look
  exact ⟨⟨C, _, _, J, rfl⟩, run_ins c F hr hx I2 hi r q2⟩
theorem pe_callI0 (c : StX.CallO X.K C g) (F : FnR X.prog X.w X.K X.mg X.base CX k g sp) (hr : Room k X.A) (hx : Passes CX X E) (hN : X.N[i]? = some x) (hv : Vis X.env.scope x)
    (hd : (x == ("__debug__" : Str)) = false := by decide) (hcd : (x == ("__classdict__" : Str)) = false := by decide) : PE X (.Call (.Name x p) [] [] pos) (tCallI i C sp E tNil) := by
  refine ⟨fun pins s σ H Q I h => ?_⟩
  obtain ⟨a, hs, ⟨dx, fs, hi⟩, h⟩ := h
  refine wpAny_Call_Name_kw (thn ((pe_var (pos := p) (i := i) hN hv hd hcd).run pins s σ H (fun v H1 => v = .ref a ∧ H1 = H) I ⟨.ref a, hs, rfl, rfl⟩) fun u s1 ⟨v, H1, I1, r1, ev, eH⟩ => ?_)
  subst ev
  rw [eH] at I1
  cases r1
  obtain ⟨mA, J, _⟩ := ins_get I1.hok hi
  obtain ⟨od, J, _⟩ := J.look
  exact PySem.W.kco_callWith0 (K := X.K) I1.kIn J rfl c.at_ (run_ins (us := []) c F hr hx I1 hi .nil h)
end
end Own

namespace Own
open PySem PySem.Spec PyProof.Rows L2
/-- a promise told of the values as they come -/
theorem fnr_of {P : Program} {w : World} {K : PySem.W.Frag} {mg : Str → Option Value} {base : Heap} {CX : CXT} {k : Nat} {f : Addr} {fd : FuncData} {ps : List Str} {sp : Sp} {dvs : List V} {ds : List Value} (G : FnOk P w K mg base CX k f fd ps sp) (hb : Binds K fd ps ds) (hd : Vals dvs ds) :
    FnR P w K mg base CX k f (fun vs H Q E => sp (vs ++ dvs) H Q E) := fun A outer s H us vs Q E hr e0 r h => by
  have KX : K.In s.heap := e0.mod.kin.keeps fun b o e => (e0.bs b o e).1
  have hl : (us ++ ds).length = ps.length := by
    have e := (r.append hd).length
    rw [G.len _ _ _ _ h] at e
    exact e.symm
  exact G.run A outer s H ⟨us, []⟩ (us ++ ds) (vs ++ dvs) Q E hr e0 (hb s us KX hl) (r.append hd) h
theorem fnr0 {P : Program} {w : World} {K : PySem.W.Frag} {mg : Str → Option Value} {base : Heap} {CX : CXT} {k : Nat} {f : Addr} {fd : FuncData} {ps : List Str} {sp : Sp} (G : FnOk P w K mg base CX k f fd ps sp) (hb : Binds K fd ps []) :
    FnR P w K mg base CX k f sp := (fnr_of G hb .nil).imp fun vs H Q E h => by rw [List.append_nil]; exact h
section
variable {X : Cx} {CX : CXT} {k i : Nat} {C g f : Addr} {sp : Sp} {E : L2.St → XK} {x : Str} {e a b : Expr} {es : List Expr} {t : TA} {ta tb : TE} {p pos : Pos} {fd : FuncData} {ps : List Str} {dvs : List V} {ds : List Value}
theorem run_fnRS {pins : List (Addr × Obj)} {σ : L2.St} {H : Hp} {s : Shared} {Q : VK} {us : List Value} {vs : List V} (F : FnR X.prog X.w X.K X.mg X.base CX k g sp) (hr : Room k X.A) (hx : PassesAt CX X σ (E σ)) (I : L2.Inv X pins σ H s) (r : Vals vs us) (h : sp vs H Q (E σ)) :
    codeAny (model X.prog X.w) X.A (.call (.ref g) ⟨us, []⟩) (fun r s' => match r with | .ok (.ret v) => EP X pins σ Q v s' | .ok _ => False | .error e => X.xe e s') s := by
  refine codeAny_mono (F X.A X.stack s H us vs Q (E σ) hr I.env0 r h) fun r s' hq => ?_
  cases r with
  | error e => exact hx pins H s e s' I hq
  | ok fl =>
    cases fl with
    | ret u => exact I.after hq
    | next => exact False.elim hq
    | brk => exact False.elim hq
    | cont => exact False.elim hq
/-- a + b of two instances of one own class -/
theorem pe_binS {op : Operator} (F : FnR X.prog X.w X.K X.mg X.base CX k g sp) (hs : PySem.W.findIn X.K (.ref C) (PySem.dunder op.info.2) = some (some (.ref g))) (hf : PySem.W.isFn X.K (.ref g) = true) (hc : PySem.W.selfFirst X.K C = true) (hr : Room k X.A)
    (hx : ∀ σ, PassesAt CX X σ (E σ)) (ha : PE X a ta) (hb : PE X b tb) : PE X (.BinOp a op b pos) (fun σ H Q => ta σ H fun x H1 => tb σ H1 fun y H2 => rOwn C sp (E σ) x y H2 Q) := by
  refine ⟨fun pins s σ H Q I h => ?_⟩
  have h' : tOp (fun x y H2 Q => rOwn C sp (E σ) x y H2 Q) ta tb σ H Q := h
  refine wpAny_BinOp (binT ha hb I h' fun v u s2 x y H2 I2 rx ry q => ?_)
  obtain ⟨a, b, dx, dy, fs, gs, rfl, rfl, ha, hb, hsp⟩ := q
  cases rx
  cases ry
  obtain ⟨mA, J, _⟩ := ins_get I2.hok ha
  obtain ⟨mB, J', _⟩ := ins_get I2.hok hb
  obtain ⟨od, J, _⟩ := J.look
  obtain ⟨od', J', _⟩ := J'.look
  obtain ⟨m, hF⟩ := I2.fr
  refine PySem.W.binop_K (op := op) hF I2.ok.mod.kin J J'.type hc hs hf ?_
  exact wpAny_mono (wpAny_call (run_fnRS F hr (hx σ) I2 (us := [.ref a, .ref b]) (vs := [.ref a, .ref b]) (.cons rfl (.cons rfl .nil)) hsp)) (fun _ _ z => back z) fun _ _ z => z
/-- C(e, ..) whose __init__ may raise -/
structure MkS (C : Addr) (sp : Sp) (E : XK) (vs : List V) (H1 : Hp) (Q : VK) : Prop where
  run : ∀ x dx, H1 x = Option.none → H1 dx = Option.none → dx ≠ x → sp (V.ref x :: vs) (upd (upd H1 dx (.own x)) x (.ins C dx [])) (fun v H2 => v = .non ∧ Q (.ref x) H2) E
def tMakeS (C : Addr) (sp : Sp) (E : L2.St → XK) (t : TA) : TE := fun σ H Q => t σ H fun vs H1 => MkS C sp (E σ) vs H1 Q
theorem pe_makeS (M : Mk X.K C f) (F : FnR X.prog X.w X.K X.mg X.base CX k f sp) (hr : Room (k + 1) X.A) (hg : Gl X x) (hm : X.mg x = some (.ref C)) (hx : ∀ σ, PassesAt CX X σ (E σ)) (ha : PA X (e :: es) t) (hdb : (x == ("__debug__" : Str)) = false := by decide)
    (he : starEach (e :: es) X.env = (false, eval e X.env) :: starEach es X.env := by rfl) (hpl : (backTo pos (starEach es X.env)).any (·.1) = false := by rfl) : PE X (.Call (.Name x p) (e :: es) [] pos) (tMakeS C sp E t) := by
  refine ⟨fun pins s σ H Q I h => ?_⟩
  refine wpAny_Call_Name_kw (ld_glob I hg hm ?_ hdb)
  refine PySem.W.callWith_K (h₀ := X.base) I.ok.mod.kin M.kp (thn (ha.run pos pins s σ H _ I h) fun us s1 ⟨vs, H1, I1, r, q⟩ => ⟨I1.kIn, ?_⟩) he hpl
  have hq := q.run (s1.heap.objs.size + 1) s1.heap.objs.size (I1.hok.fresh (Nat.le_succ _)) (I1.hok.fresh (Nat.le_refl _)) (Nat.ne_of_lt (Nat.lt_succ_self _))
  have I2 := Inv.made (C := C) I1
  have r2 : Vals (V.ref (s1.heap.objs.size + 1) :: vs) (Value.ref (s1.heap.objs.size + 1) :: us) := .cons rfl r
  refine wpAny_call (make_map (f := f) I1.kIn M.makes M.init (beq_iff_eq.mp M.fn) (codeAny_mono (F _ X.stack _ _ (Value.ref (s1.heap.objs.size + 1) :: us) _ _ (E σ) (hr.make C us []) (I2.env0.make C us []) r2 hq) fun r s' hq' => ?_))
  cases r with
  | error e => exact hx σ pins _ _ e s' I2 hq'
  | ok fl =>
    cases fl with
    | ret u =>
      obtain ⟨v, H', I3, rv, ev, q3⟩ := I2.after hq'
      subst ev
      exact ⟨rv, ⟨V.ref (s1.heap.objs.size + 1), H', I3, rfl, q3⟩⟩
    | next => exact False.elim hq'
    | brk => exact False.elim hq'
    | cont => exact False.elim hq'
def tCallIS (i : Nat) (C : Addr) (sp : Sp) (E : L2.St → XK) (t : TA) : TE := fun σ H Q => ∃ a, σ[i]? = some (some (.ref a)) ∧ t σ H fun vs H1 => (∃ dx fs, H1 a = some (.ins C dx fs)) ∧ sp (V.ref a :: vs) H1 Q (E σ)
theorem run_insS {pins : List (Addr × Obj)} {σ : L2.St} {H : Hp} {s : Shared} {Q : VK} {a dx : Addr} {fs : List (Str × V)} {us : List Value} {vs : List V} (c : StX.CallO X.K C g) (F : FnR X.prog X.w X.K X.mg X.base CX k g sp) (hr : Room k X.A) (hx : PassesAt CX X σ (E σ)) (I : L2.Inv X pins σ H s)
    (ha : H a = some (.ins C dx fs)) (r : Vals vs us) (h : sp (V.ref a :: vs) H Q (E σ)) : wpAny (model X.prog X.w) X.A (call (.ref a) us) (EP X pins σ Q) X.xe s := by
  obtain ⟨mA, J, _⟩ := ins_get I.hok ha
  obtain ⟨od, J, _⟩ := J.look
  exact wpAny_call (PySem.W.kco_code I.kIn J rfl c.at_ c.fn c.fi (run_fnRS (us := .ref a :: us) (vs := .ref a :: vs) F hr hx I (.cons rfl r) h))
theorem pe_callIS (c : StX.CallO X.K C g) (F : FnR X.prog X.w X.K X.mg X.base CX k g sp) (hr : Room k X.A) (hx : ∀ σ, PassesAt CX X σ (E σ)) (hN : X.N[i]? = some x) (hv : Vis X.env.scope x) (ha : PA X (e :: es) t)
    (hd : (x == ("__debug__" : Str)) = false := by decide) (hcd : (x == ("__classdict__" : Str)) = false := by decide)
    (he : starEach (e :: es) X.env = (false, eval e X.env) :: starEach es X.env := by rfl) (hpl : (backTo pos (starEach es X.env)).any (·.1) = false := by rfl) : PE X (.Call (.Name x p) (e :: es) [] pos) (tCallIS i C sp E t) := by
  refine ⟨fun pins s σ H Q I h => ?_⟩
  obtain ⟨a, hs, h⟩ := h
  refine wpAny_Call_Name_kw (thn ((pe_var (pos := p) (i := i) hN hv hd hcd).run pins s σ H (fun v H1 => v = .ref a ∧ H1 = H) I ⟨.ref a, hs, rfl, rfl⟩) fun u s1 ⟨v, H1, I1, r1, ev, eH⟩ => ?_)
  subst ev
  rw [eH] at I1
  cases r1
  refine StX.callO_with (thn (ha.run pos pins s1 σ H _ I1 h) fun us s2 ⟨vs, H2, I2, r, ⟨dx, fs, hi⟩, q2⟩ => ?_) he hpl
  obtain ⟨mA, J, _⟩ := ins_get I2.hok hi
  obtain ⟨od, J, _⟩ := J.look
  exact ⟨⟨C, _, _, J, rfl⟩, run_insS c F hr (hx σ) I2 hi r q2⟩
theorem pe_callIS0 (c : StX.CallO X.K C g) (F : FnR X.prog X.w X.K X.mg X.base CX k g sp) (hr : Room k X.A) (hx : ∀ σ, PassesAt CX X σ (E σ)) (hN : X.N[i]? = some x) (hv : Vis X.env.scope x)
    (hd : (x == ("__debug__" : Str)) = false := by decide) (hcd : (x == ("__classdict__" : Str)) = false := by decide) : PE X (.Call (.Name x p) [] [] pos) (tCallIS i C sp E tNil) := by
  refine ⟨fun pins s σ H Q I h => ?_⟩
  obtain ⟨a, hs, ⟨dx, fs, hi⟩, h⟩ := h
  refine wpAny_Call_Name_kw (thn ((pe_var (pos := p) (i := i) hN hv hd hcd).run pins s σ H (fun v H1 => v = .ref a ∧ H1 = H) I ⟨.ref a, hs, rfl, rfl⟩) fun u s1 ⟨v, H1, I1, r1, ev, eH⟩ => ?_)
  subst ev
  rw [eH] at I1
  cases r1
  obtain ⟨mA, J, _⟩ := ins_get I1.hok hi
  obtain ⟨od, J, _⟩ := J.look
  exact PySem.W.kco_callWith0 (K := X.K) I1.kIn J rfl c.at_ (run_insS (us := []) c F hr (hx σ) I1 hi .nil h)
end
end Own

/-! Several except clauses, each with a name for the error. -/
namespace TryAs
open PySem PySem.Spec PyProof.Rows L2
abbrev Su := Addr → Value → Option Addr → TS
/-- the ends of a suite whose name in slot i goes behind it -/
def endsOf (i : Nat) (D : Ends) : Ends := { nx := fun σ' H' => D.nx (σ'.set i none) H', rt := D.rt, bk := fun σ' H' => D.bk (σ'.set i none) H', ct := fun σ' H' => D.ct (σ'.set i none) H' }
/-- what the clauses wish of an error, from the first on: class, slot of the name, suite -/
def wAsM (K : PySem.W.Frag) (Wout : WX) (D : Ends) : List (Value × Nat × Su) → WX
  | [] => Wout
  | (c, i, ts) :: r => fun cls d σ H => ∃ b, PySem.W.exmOne K cls c = some b ∧ (b = true → ∀ a, H a = none → ts a cls d (endsOf i D) (σ.set i (some (.ref a))) H) ∧ (b = false → wAsM K Wout D r cls d σ H)
inductive Hds (X : Cx) : List ExceptHandler → List (Value × Nat × Su) → Prop
  | nil : Hds X [] []
  | cons {x n : Str} {c : Value} {i : Nat} {ts : Su} {b₀ : Stmt} {suite : List Stmt} {np pos' : Pos} {hds : List ExceptHandler} {l : List (Value × Nat × Su)} (hi : X.N[i]? = some n) (hln : X.env.kindOf n = some .local) (hc : Names X x c)
      (hsu : ∀ (a : Addr) (oe : Obj) (cls : Value) (d : Option Addr) (pn : List (Addr × Obj)), Zc cls d oe → (∃ vs, oe.data = .fields vs) → PSs (X.suite a ((a, oe) :: pn)) (b₀ :: suite) (ts a cls d)) (r : Hds X hds l) :
      Hds X (.ExceptHandler (some (.Name x np)) (some n) (b₀ :: suite) pos' :: hds) ((c, i, ts) :: l)
section
variable {X : Cx} {body : List Stmt} {h₀ : ExceptHandler} {hds : List ExceptHandler} {l : List (Value × Nat × Su)} {pos : Pos} {tb : WX → TS} {Wout : WX}
theorem ps_try_asM (hs : X.stack = X.env :: X.outer) (hf : X.env.frame = some X.env.locals) (hN : X.N.Nodup) (tk : Takes X Wout)
    (hb : ∀ (W : WX) (pn : List (Addr × Obj)) (xe : Value → Shared → Prop), Takes (X.tr pn xe) W → PassesOwn (model X.prog X.w) X.A X.env xe → PSs (X.tr pn xe) body (tb W))
    (hh : Hds X (h₀ :: hds) l) : PS X (.Try body (h₀ :: hds) [] [] pos) (fun D σ H => tb (wAsM X.K Wout D l) D σ H) := by
  refine ⟨fun pins s σ H D I h => wpAny_Try_except ?_⟩
  have ok := I.ok
  have hfr : X.A.frames = some (X.env :: X.outer) := by rw [ok.frames, hs]
  refine wpAny_mono ((hb (wAsM X.K Wout D l) (X.pn ++ pins) (fun e s₁ => wpAny (model X.prog X.w) X.A (noteFrame e X.env) (fun _ s₂ => wpAny (model X.prog X.w) X.A (setFlight e none) (fun _ s₃ =>
    wpAny (model X.prog X.w) X.A (handleBy e X.env (h₀ :: hds)) (SP X pins D) X.xe s₃) X.xe s₂) X.xe s₁) (fun u s' xx => ?_) PassesOwn.looking).run [] s σ H D (I.toTry _) h) (fun f s1 hsp => ?_) (fun e s1 he => he)
  · obtain ⟨a, B, sI, pins', σ', H', cls, d, rfl, J', nb, up, sky, na, os, ag, w⟩ := xx
    have J : Inv X pins σ' H' sI := J'.ofTry ok
    show wpAny (model X.prog X.w) X.A (noteFrame (.ref a) X.env) _ _ _
    refine Sky.land Zc.steady hfr hf (show Sky B (X.env :: X.outer) a (Zc cls d) X.env.locals s'.heap by rw [← hs]; exact sky) fun h3 fl3 up3 => ?_
    have J3 : Inv X pins σ' H' { s' with heap := h3 } := J.landed nb fl3.1 (up.trans up3) os ag
    obtain ⟨oe3, vs3, he3, hz3, hd3⟩ := fl3.there
    have nfr : a ∉ frs (X.env :: X.outer) := fun hm => by
      obtain ⟨_, o', e', hnf⟩ := fl3.2.2.1.mem hm
      rw [he3] at e'
      cases e'
      exact hnf _ hd3
    have nL : a ≠ X.env.locals := fun z => nfr (List.mem_filterMap.mpr ⟨X.env, List.mem_cons_self, by rw [hf, z]⟩)
    have nF : a ∉ X.fs := fun hm => by
      obtain ⟨e, he, q⟩ := List.mem_filterMap.mp hm
      exact nfr (List.mem_filterMap.mpr ⟨e, List.mem_cons_of_mem _ he, q⟩)
    have S3 := J3.suite he3 hd3 na nL nF
    have go : ∀ {hds' : List ExceptHandler} {l' : List (Value × Nat × Su)}, Hds X hds' l' → wAsM X.K Wout D l' cls d σ' H' →
        wpAny (model X.prog X.w) X.A (handleBy (.ref a) X.env hds') (SP X pins D) X.xe { s' with heap := h3 } := fun {hds' l'} hk => by
      induction hk with
      | nil =>
        intro w
        refine wpAny_handleBy_nil ?_
        obtain ⟨k1, k2, k3, oe, vs, T, oT, ts', he, hz, hd, h1, hr⟩ := id fl3
        unfold PySem.passOn
        refine wpAny_bind (wpAny_field he hd h1 ?_)
        rw [if_neg (show ¬ ((Value.ref T == Value.none) = true) from by simp)]
        have fin : wpAny (model X.prog X.w) X.A (setFlight (.ref a) X.env.frame) (fun _ s4 => wpAny (model X.prog X.w) X.A (throw (.ref a) : Sem Flow) (SP X pins D) X.xe s4) X.xe { s' with heap := h3 } := by
          rw [hf]
          exact HandSPX.setFlight_upZ fl3 fun h4 hh4 up4 => wpAny_throw (tk _ _ ⟨a, B, sI, pins, σ', H', cls, d, rfl, J, nb, (up.trans up3).trans up4, .inr (.inr (by rw [hs]; exact hh4)), na, os, ag, w⟩)
        first
          | exact wpAny_bind (wpAny_pure (wpAny_bind fin))
          | exact wpAny_bind fin
      | @cons x n c i ts b₀ suite np pos' hds2 l2 hi hln hc hsu r ih =>
        intro w
        obtain ⟨b, hb1, hyes, hno⟩ := w
        refine wpAny_handleBy_cons (codeAny_handlers_test ?_) (by intro q; cases q)
        have LT : PySem.W.Looks (model X.prog X.w) h3 (typeOf (.ref a)) cls := fun A Q E s k q => wpAny_typeOf_ref (k _ _ he3) (by rw [hz3.1]; exact q)
        have LM := PySem.W.exm_one (M := model X.prog X.w) (J3.kIn) LT hb1
        have test : ∀ {Q : Value → Shared → Prop} {E : Value → Shared → Prop}, Q c { s' with heap := h3 } → wpAny (model X.prog X.w) (X.A.mark (some (.ref a))) (eval (.Name x np) X.env) Q E { s' with heap := h3 } := fun {Q E} q => by
          obtain ⟨hg, hdbg, hm | ⟨hm, hv, hnn⟩⟩ := hc
          · exact ld_glob (X := X.suite a ((a, oe3) :: (X.pn ++ pins))) S3 hg hm q hdbg
          · exact ld_blt (X := X.suite a ((a, oe3) :: (X.pn ++ pins))) S3 hg hm hv q hnn hdbg
        refine test (LM.here ?_)
        cases b with
        | false => exact ih (hno rfl)
        | true =>
          refine codeAny_handlers_suite_as (HandSPX.lands_againZ fl3 fun h4 fl4 up4 => ?_)
          have J4 : Inv X pins σ' H' { s' with heap := h4 } := J.landed nb fl4.1 ((up.trans up3).trans up4) os ag
          obtain ⟨oe4, vs4, he4, hz4, hd4⟩ := fl4.there
          refine store_ok (X := X.suite a ((a, oe4) :: (X.pn ++ pins))) (v := .ref a) (J4.suite he4 hd4 na nL nF) hN hi (.inl hln) rfl (fun s5 S5 => ?_) (.inr hln)
          refine wpAny_mono ((hsu a oe4 cls d (X.pn ++ pins) hz4 ⟨_, hd4⟩).run [] s5 _ H' _ S5 (hyes rfl a na)) (fun f s6 hsp => ?_) (fun _ _ z => False.elim z)
          cases f with
          | next =>
            obtain ⟨σ6, H6, S6, q6⟩ := hsp
            exact gone_ok (S6.unsuite ok) hN hi hln fun s7 J7 => ⟨_, _, J7, q6⟩
          | brk =>
            obtain ⟨σ6, H6, S6, q6⟩ := hsp
            exact gone_ok (S6.unsuite ok) hN hi hln fun s7 J7 => ⟨_, _, J7, q6⟩
          | cont =>
            obtain ⟨σ6, H6, S6, q6⟩ := hsp
            exact gone_ok (S6.unsuite ok) hN hi hln fun s7 J7 => ⟨_, _, J7, q6⟩
          | ret u =>
            obtain ⟨v6, σ6, H6, S6, r6, q6⟩ := hsp
            exact gone_ok (S6.unsuite ok) hN hi hln fun s7 J7 => ⟨_, _, _, J7, r6, q6⟩
    exact go hh w
  · cases f with
    | next =>
      obtain ⟨σ', H', J', q⟩ := hsp
      exact wpAny_execs_nil ⟨σ', H', J'.ofTry ok, q⟩
    | brk =>
      obtain ⟨σ', H', J', q⟩ := hsp
      exact ⟨σ', H', J'.ofTry ok, q⟩
    | cont =>
      obtain ⟨σ', H', J', q⟩ := hsp
      exact ⟨σ', H', J'.ofTry ok, q⟩
    | ret u =>
      obtain ⟨v, σ', H', J', r, q⟩ := hsp
      exact ⟨v, σ', H', J'.ofTry ok, r, q⟩
end
end TryAs

/-! len and in of instances by their own defs; methods that raise, in a try. -/
namespace Own
open PySem PySem.Spec PyProof.Rows L2
section
variable {X : Cx} {CX : CXT} {k : Nat} {C g : Addr} {sp : Sp} {E : XK}
def rLenO (C : Addr) (sp : Sp) (E : XK) : List V → Hp → VK → Prop := fun xs H Q => ∃ a dx fs, xs = [.ref a] ∧ H a = some (.ins C dx fs) ∧ sp [.ref a] H (fun v H' => ∃ n : Nat, v = .int n ∧ n < 2 ^ 62 ∧ Q v H') E
theorem call_lenO (F : FnR X.prog X.w X.K X.mg X.base CX k g sp) (hs : PySem.W.findIn X.K (.ref C) "__len__" = some (some (.ref g))) (hf : PySem.W.isFn X.K (.ref g) = true)
    (hr : Room (k + 1) X.A) (hx : Passes CX X E) : CallR X (.builtin "len") (rLenO C sp E) := by
  intro pins s σ H xs us Q I r h
  obtain ⟨a, dx, fs, rfl, ha, hsp⟩ := h
  obtain ⟨u, rfl, r1⟩ : ∃ u, us = [u] ∧ RelV (.ref a) u := by
    cases r with
    | cons r1 rr =>
      cases rr
      exact ⟨_, rfl, r1⟩
  cases r1
  obtain ⟨mA, J, _⟩ := ins_get I.hok ha
  obtain ⟨od, J, _⟩ := J.look
  obtain ⟨m, hF⟩ := I.fr
  refine PySem.W.len_K hF I.ok.mod.kin J hs hf (wpAny_mono (run_at F hr.in1 I.env0.frames hx I (us := [.ref a]) (vs := [.ref a]) (.cons rfl .nil) hsp) (fun u s' z => ?_) fun _ _ z => z)
  obtain ⟨v, H', I', rv, n, rfl, hn, q⟩ := z
  obtain ⟨t, rfl⟩ := rv
  exact ⟨⟨by omega, by omega⟩, .int n, H', I'.tok _, ⟨_, rfl⟩, q⟩
/-- x in o, o an instance -/
def rInO (C : Addr) (sp : Sp) (E : XK) : R2 := fun x y H Q => ∃ a dx fs, y = .ref a ∧ H a = some (.ins C dx fs) ∧ sp [.ref a, x] H (fun v H' => ∃ t, v = .bl t ∧ Q v H') E
theorem op_inO (F : FnR X.prog X.w X.K X.mg X.base CX k g sp) (hs : PySem.W.findIn X.K (.ref C) "__contains__" = some (some (.ref g))) (hf : PySem.W.isFn X.K (.ref g) = true)
    (hr : Room k X.A) (hx : Passes CX X E) : OpR X (compareOp .In) (rInO C sp E) := by
  intro pins s σ H x y v u Q I rx ry h
  obtain ⟨a, dx, fs, rfl, ha, hsp⟩ := h
  cases ry
  obtain ⟨mA, J, _⟩ := ins_get I.hok ha
  obtain ⟨od, J, _⟩ := J.look
  obtain ⟨m, hF⟩ := I.fr
  refine PySem.W.in_K hF I.ok.mod.kin J hs hf ?_
  refine wpAny_mono (run_at F hr I.env0.frames hx I (us := [.ref a, v]) (vs := [.ref a, x]) (.cons rfl (.cons rx .nil)) hsp) (fun u s' z => ?_) fun _ _ z => z
  obtain ⟨w, H', I', rv, t, rfl, q⟩ := z
  cases rv
  exact wpAny_truthy_bool ⟨.bl t, H', I', rfl, q⟩
end
section
variable {X : Cx} {CX : CXT} {k : Nat} {C f : Addr} {sp : Sp} {E : L2.St → XK} {m : Str} {o e : Expr} {es : List Expr} {t : TA} {ta : TE} {p pos apos : Pos}
/-- o.m(e, ..) that may raise, at the slots σ -/
def tMethS (C : Addr) (m : Str) (sp : Sp) (E : L2.St → XK) (ta : TE) (t : TA) : TE := fun σ H Q => ta σ H fun x H1 => ∃ a dx fs, x = .ref a ∧ H1 a = some (.ins C dx fs) ∧ fs.lookup m = none ∧ t σ H1 fun vs H2 => sp (x :: vs) H2 Q (E σ)
theorem pe_methW {pl : Sem Bool} (he : PE X o ta) (c : Cls X.K C) (hm : Meth X.K C m f) (F : FnR X.prog X.w X.K X.mg X.base CX k f sp) (hr : Room k X.A) (hx : ∀ σ, PassesAt CX X σ (E σ)) (ha : PA X (e :: es) t)
    (hst : starEach (e :: es) X.env = (false, eval e X.env) :: starEach es X.env := by rfl) (hpl : (backTo pos (starEach es X.env)).any (·.1) = false := by rfl)
    (ht : eval (.Call (.Attribute o m apos) (e :: es) [] pos) X.env = (do
      let ov ← eval o X.env
      standAt apos.atName
      let (f, first) ← holding [ov] (getMethod ov m pl)
      callWith pos f first (backTo pos (starEach (e :: es) X.env)) (backToKw pos (keywordEach [] X.env))) := by rfl) :
    PE X (.Call (.Attribute o m apos) (e :: es) [] pos) (tMethS C m sp E ta t) := by
  refine ⟨fun pins s σ H Q I h => ?_⟩
  refine PySem.W.methodCall_KW (pl := pl) (thn (he.run pins s σ H _ I h) fun u s1 ⟨x, H1, I1, rx, a, dx, fs, ex, ea, l, q⟩ => ?_) ht
  subst ex
  obtain rfl : u = Value.ref a := rx
  refine getmeth_ok I1 ea c hm l ?_
  refine PySem.W.callWith_K (first := [.ref a]) (h₀ := X.base) I.ok.mod.kin hm.kp (thn (ha.run pos pins s1 σ H1 _ I1 q) fun us s2 ⟨vs, H2, I2, r, q2⟩ => ⟨I2.kIn, ?_⟩) hst hpl
  exact wpAny_call (run_fnRS (us := .ref a :: us) (vs := .ref a :: vs) F hr (hx σ) I2 (.cons rfl r) q2)
end
end Own

namespace Law
open PySem PySem.Spec PyProof.Rows L2
def top (i : Nat) : Stmt := PySem.Challenge.pw_rungbounds_k15_misread_and_pinned.main.body.getD i (.Pass ⟨0, 0, 0, 0⟩)
abbrev sBox : Stmt := top 9
abbrev sTake : Stmt := top 10
/-- the box at b: the cells in the list at l, the place, what is left of a great cell, the seed -/
def Box (H : Hp) (b l : Addr) : Prop := ∃ (ns : List Int) (i : Nat) (q s : Int), H b = some (.lst [.ref l, .int i, .int q, .int s]) ∧ H l = some (.lst (ns.map V.int)) ∧ ns.length ≤ 63
theorem Box.ne {H : Hp} {b l : Addr} (B : Box H b l) : l ≠ b := fun z => by
  obtain ⟨ns, i, q, s, h1, h2, _⟩ := B
  rw [z, h1] at h2
  have e := HO.lst.inj (Option.some.inj h2)
  cases ns with
  | nil => cases e
  | cons n ns => cases e
theorem Box.keep {H H' : Hp} {b l : Addr} (B : Box H b l) (k : ∀ c, c = b ∨ c = l → H' c = H c) : Box H' b l := by
  obtain ⟨ns, i, q, s, h1, h2, h3⟩ := B
  exact ⟨ns, i, q, s, (k b (.inl rfl)).trans h1, (k l (.inr rfl)).trans h2, h3⟩
/-- a draw: 0 ≤ r < size; nothing but the box has changed -/
def spTake : Sp := fun vs H Q _ => ∃ (b l : Addr) (n : Int), vs = [.ref b, .int n] ∧ Box H b l ∧ 0 < n ∧ n.natAbs < 2 ^ 8000 ∧
  ∀ (r : Int) (H' : Hp), 0 ≤ r → r < n → Box H' b l → (∀ c, c ≠ b → H' c = H c) → Q (.int r) H'
def spBox (K : PySem.W.Frag) : Sp := fun vs H Q _ => ∃ (a : Addr) (ns : List Int), vs = [.ref a] ∧ SqL K H a (ns.map V.int) ∧ ns.length ≤ 63 ∧
  ∀ (b l : Addr) (H' : Hp), Box H' b l → H b = none → H l = none → Same H H' → Q (.ref b) H'
structure BoxTxt (K : PySem.W.Frag) (mg : Str → Option Value) : Prop where
  len : mg "len" = none
  int : mg "int" = none
section
variable {P : Program} {w : World} {K : PySem.W.Frag} {mg : Str → Option Value} {base : Heap}
theorem scTake : FnScope ["_law_box_here", "_law_size", "_law_cell", "_law_digit"] ["_law_box_here", "_law_size"] (defScope sTake) := ⟨rfl, rfl, rfl, by decide +kernel, rfl, by decide +kernel, by decide +kernel⟩
theorem if_t {c : Bool} {A B : Prop} (hc : c = true) (h : A) : if c = true then A else B := by
  rw [hc]
  exact h
theorem if_f {c : Bool} {A B : Prop} (hc : c = false) (h : B) : if c = true then A else B := by
  rw [hc]
  exact h
theorem pow18 : CPow 10 18 := ⟨by decide, by decide, by decide⟩
theorem at_box {l : Addr} {i q s : Int} : atI [V.ref l, .int i, .int q, .int s] 0 = some (.ref l) ∧ atI [V.ref l, .int i, .int q, .int s] 1 = some (.int i) ∧ atI [V.ref l, .int i, .int q, .int s] 2 = some (.int q) ∧ atI [V.ref l, .int i, .int q, .int s] 3 = some (.int s) := ⟨rfl, rfl, rfl, rfl⟩
theorem ok_take {f : Addr} {fd : FuncData} (F : Fun K "_law_take" "_law_take" sTake f fd) (T : BoxTxt K mg) : FnOk P w K mg base CX0 1 f fd ["_law_box_here", "_law_size"] spTake := by
  refine F.ok scTake (fun vs H Q E h => ?_) (fun cdv A outer s H vs Q E hr h => ?_)
  · obtain ⟨b, l, n, rfl, _⟩ := h
    rfl
  · obtain ⟨b, l, n, rfl, B, hn0, hn1, k⟩ := h
    refine ⟨_, C8.pss_cut (ps_if (PW.pt (pw_and (pt_cmpR op_lt (pe_ix ix_list (pv 0) pe_int (fun _ _ => rfl)) pe_int (nomark _))
          (pw_and1 (pt_cmpR op_lt (pe_ix ix_list (pv 0) pe_int (fun _ _ => rfl)) (pe_callB call_len_seq (by rfl) T.len PySem.boot_len (pa_cons (pe_ix ix_list (pv 0) pe_int (fun _ _ => rfl)) pa_nil)) (nomark _)))))
        (pss_cons (ps_set (i := 2) scTake.nd rfl (Or.inl rfl) (pe_ix ix_list (pe_ix ix_list (pv 0) pe_int (fun _ _ => rfl)) (pe_ix ix_list (pv 0) pe_int (fun _ _ => rfl)) (fun _ _ => rfl)))
        (pss_cons (ps_asg (pe_op op_add (pe_ix ix_list (pv 0) pe_int (fun _ _ => rfl)) pe_int) (pg_sub (pv 0) pe_int set_list))
        (pss_one (ps_if (pt_cmpR op_ge (pv 2) (pe_op op_pow pe_int pe_int) (nomark _))
          (pss_one (ps_asg (pe_op op_sub (pv 2) (pe_op op_pow pe_int pe_int)) (pg_sub (pv 0) pe_int set_list)))
          (pss_one (ps_asg (pe_op op_mod (pe_callTy call_int1 (by rfl) T.int (by decide +kernel) (pa_cons (pe_op op_add (pe_op op_add (pe_op op_mul (pe_ix ix_list (pv 0) pe_int (fun _ _ => rfl)) pe_int) (pe_op op_mul (pv 2) pe_int)) pe_int) pa_nil)) pe_int) (pg_sub (pv 0) pe_int set_list)))))))
        pss_nil)
      (pss_cons (ps_if (pt_cmpR op_gt (pe_ix ix_list (pv 0) pe_int (fun _ _ => rfl)) pe_int (nomark _))
        (pss_cons (ps_set (i := 3) scTake.nd rfl (Or.inl rfl) (pe_op op_mod (pe_callTy call_int1 (by rfl) T.int (by decide +kernel) (pa_cons (pe_ix ix_list (pv 0) pe_int (fun _ _ => rfl)) pa_nil)) (pv 1)))
        (pss_cons (ps_asg (pe_op op_fdivW (pe_ix ix_list (pv 0) pe_int (fun _ _ => rfl)) (pv 1)) (pg_sub (pv 0) pe_int set_list))
        (pss_one (ps_ret (pv 3))))) pss_nil)
      (pss_cons (ps_asg (pe_op op_mod (pe_callTy call_int1 (by rfl) T.int (by decide +kernel) (pa_cons (pe_op op_mul (pe_ix ix_list (pv 0) pe_int (fun _ _ => rfl)) pe_int) pa_nil)) pe_int) (pg_sub (pv 0) pe_int set_list))
      (pss_one (ps_ret (pe_op op_mod (pe_callTy call_int1 (by rfl) T.int (by decide +kernel) (pa_cons (pe_op op_fdiv (pe_ix ix_list (pv 0) pe_int (fun _ _ => rfl)) pe_int) pa_nil)) (pv 1)))))), ?_⟩
    obtain ⟨ns, i, q, sd, hb, hl, h63⟩ := id B
    have hne := B.ne
    have keepB : ∀ {H' : Hp} {i' : Nat} {q' s' : Int}, H' b = some (.lst [.ref l, .int i', .int q', .int s']) → (∀ c, c ≠ b → H' c = H c) → Box H' b l :=
      fun {H' i' q' s'} h1 h2 => ⟨ns, i', q', s', h1, (h2 l hne).trans hl, h63⟩
    refine ⟨fun σ' H' => ∃ (v : Option V) (i' : Nat) (q' s' : Int), σ' = [some (.ref b), some (.int n), v, none] ∧ H' b = some (.lst [.ref l, .int i', .int q', .int s']) ∧ ∀ c, c ≠ b → H' c = H c, ?_, ?_⟩
    · -- a new cell is read, or not
      refine ⟨_, rfl, b, _, _, _, rfl, rfl, SqL.of hb, at_box.2.2.1, _, _, rfl, rfl, _, rfl, ?_⟩
      by_cases c1 : q < 1
      · refine if_t (decide_eq_true c1) ?_
        refine ⟨_, rfl, b, _, _, _, rfl, rfl, SqL.of hb, at_box.2.1, _, rfl, b, _, _, _, rfl, rfl, SqL.of hb, at_box.1, l, _, rfl, .inl (SqL.of hl), _, _, rfl, rfl, _, rfl, ?_⟩
        by_cases c2 : (i : Int) < ((ns.map V.int).length : Int)
        · refine if_t (decide_eq_true c2) ?_
          rw [List.length_map] at c2
          obtain ⟨z, hz⟩ : ∃ z, ns[i]? = some z := ⟨_, List.getElem?_eq_getElem (by omega)⟩
          have hz' : atI (ns.map V.int) (i : Int) = some (V.int z) := atI_nat (by rw [List.getElem?_map, hz]; rfl)
          refine ⟨_, rfl, b, _, _, _, rfl, rfl, SqL.of hb, at_box.1, _, rfl, b, _, _, _, rfl, rfl, SqL.of hb, at_box.2.1, l, _, _, _, rfl, rfl, SqL.of hl, hz', ?_⟩
          refine ⟨_, rfl, b, _, _, _, rfl, rfl, SqL.of hb, at_box.2.1, _, _, rfl, rfl, _, rfl, b, _, _, 1, rfl, rfl, hb, rfl, ?_⟩
          have h1 : ∀ (o : HO), upd H b o b = some o := fun o => upd_same
          have hc : ∀ (o : HO) c, c ≠ b → upd H b o c = H c := fun o c hc => upd_ne hc
          refine ⟨_, rfl, _, _, rfl, rfl, pow18, _, _, rfl, rfl, _, rfl, ?_⟩
          refine ite2 (fun _ => ?_) fun _ => ?_
          · refine ⟨_, rfl, _, _, rfl, rfl, pow18, _, _, rfl, rfl, _, rfl, b, _, _, 2, rfl, rfl, h1 _, rfl, ?_⟩
            exact ⟨some (.int z), i + 1, _, sd, rfl, upd_same, fun c hc' => by rw [upd_ne hc', upd_ne hc']⟩
          · refine ⟨_, rfl, b, _, _, _, rfl, rfl, SqL.of (h1 _), at_box.2.2.2, _, _, rfl, rfl, .inr ⟨by decide, by decide⟩, _, rfl, _, _, rfl, rfl, .inr ⟨by decide, by decide⟩, _, _, rfl, rfl, _, _, rfl, rfl, .inl ⟨_, rfl, _, _, rfl, rfl, (by show (0 : Int) < 2147483647; decide), _, rfl, b, _, _, 3, rfl, rfl, h1 _, rfl, ?_⟩⟩
            exact ⟨some (.int z), i + 1, q, _, rfl, upd_same, fun c hc' => by rw [upd_ne hc', upd_ne hc']⟩
        · refine if_f (decide_eq_false c2) ?_
          exact ⟨none, i, q, sd, rfl, hb, fun _ _ => rfl⟩
      · refine if_f (decide_eq_false c1) ?_
        exact ⟨none, i, q, sd, rfl, hb, fun _ _ => rfl⟩
    · rintro σ' H' ⟨v, i', q', s', rfl, hb', ho⟩
      refine ⟨_, rfl, b, _, _, _, rfl, rfl, SqL.of hb', at_box.2.2.1, _, _, rfl, rfl, _, rfl, ?_⟩
      refine ite2 (fun _ => ?_) fun _ => ?_
      · refine ⟨_, rfl, b, _, _, _, rfl, rfl, SqL.of hb', at_box.2.2.1, .inl ⟨_, rfl, _, rfl, _, _, rfl, rfl, hn0, ?_⟩⟩
        refine ⟨_, rfl, b, _, _, _, rfl, rfl, SqL.of hb', at_box.2.2.1, _, rfl, _, _, rfl, rfl, wide_div hn0 hn1 (by decide) (by decide), _, rfl, b, _, _, 2, rfl, rfl, hb', rfl, _, rfl, ?_⟩
        exact k _ _ (Int.emod_nonneg _ (by omega)) (Int.emod_lt_of_pos _ hn0) (keepB (q' := q' / n) upd_same fun c hc => (upd_ne hc).trans (ho c hc)) fun c hc => (upd_ne hc).trans (ho c hc)
      · refine ⟨_, rfl, b, _, _, _, rfl, rfl, SqL.of hb', at_box.2.2.2, _, _, rfl, rfl, .inr ⟨by decide, by decide⟩, .inl ⟨_, rfl, _, _, rfl, rfl, (by show (0 : Int) < 2147483647; decide), _, rfl, b, _, _, 3, rfl, rfl, hb', rfl, ?_⟩⟩
        refine ⟨_, rfl, b, _, _, _, rfl, rfl, SqL.of upd_same, at_box.2.2.2, _, _, rfl, rfl, ⟨by decide, by decide⟩, .inl ⟨_, rfl, _, rfl, _, _, rfl, rfl, hn0, ?_⟩⟩
        exact k _ _ (Int.emod_nonneg _ (by omega)) (Int.emod_lt_of_pos _ hn0) (keepB upd_same fun c hc => (upd_ne hc).trans (ho c hc)) fun c hc => (upd_ne hc).trans (ho c hc)

theorem cut63 {xs : List V} (h : xs.length ≤ 63) : cutV xs none (some 63) = xs := by
  unfold cutV
  have e0 : HT.sIx xs.length 0 none = 0 := rfl
  have e1 : HT.sIx xs.length xs.length (some 63) = xs.length := by
    unfold HT.sIx
    simp
    omega
  rw [e0, e1, List.drop_zero, Nat.sub_zero, List.take_length]
theorem scBox : FnScope ["_law_script", "_law_cell"] ["_law_script"] (defScope sBox) := ⟨rfl, rfl, rfl, by decide +kernel, rfl, by decide +kernel, by decide +kernel⟩
theorem ok_box {f : Addr} {fd : FuncData} (F : Fun K "_law_box" "_law_box" sBox f fd) (T : BoxTxt K mg) : FnOk P w K mg base CX0 1 f fd ["_law_script"] (spBox K) := by
  refine F.ok scBox (fun vs H Q E h => ?_) (fun cdv A outer s H vs Q E hr h => ?_)
  · obtain ⟨a, ns, rfl, _⟩ := h
    rfl
  · obtain ⟨a, ns, rfl, hS, h63, k⟩ := h
    refine ⟨_, pss_one (ps_ret (pe_lst (pa_cons (pe_lc (own := [("_law_cell", 1)]) (g := gName 1) (tt := tYes) (by rfl) scBox.nd (pi_list (pe_slice sl_list (pv 0) po_none (po_some pe_int)))
        (blkOk_by (own := [("_law_cell", 1)]) (N := ["_law_script", "_law_cell"]) (sc := defScope sBox) (by decide +kernel)) (fun _ _ _ _ _ => pg_name (i := 1) scBox.nd rfl (Or.inl rfl)) (fun _ _ _ _ _ => pts_nil)
        (fun _ _ _ _ _ => pe_callTy call_int1 (by rfl) T.int (by decide +kernel) (pa_cons (pv 1) pa_nil))) (pa_cons pe_int (pa_cons pe_int (pa_cons pe_int pa_nil)))))), ?_⟩
    have e63 : cutV (ns.map V.int) none (some 63) = ns.map V.int := cut63 (by rw [List.length_map]; exact h63)
    refine ⟨_, rfl, 63, rfl, a, _, rfl, hS, fun p hp => ?_⟩
    rw [e63]
    refine ⟨p, rfl, ⟨_, SqL.of upd_same⟩, fun D hD => ?_⟩
    have hpD : p ≠ D := fun z => by
      rw [z, upd_same] at hD
      cases hD
    have hD0 : H D = none := by rw [upd_ne (Ne.symm hpD)] at hD; exact hD
    refine lc_list (K := K) (a := p) (xs := ns.map V.int) (fun i H' => H' D = some (.lst ((ns.take i).map V.int)) ∧ H' p = some (.lst (ns.map V.int)) ∧ ∀ c, c ≠ D → c ≠ p → H' c = H c)
      ⟨upd_same, by rw [upd_ne hpD, upd_same], fun c h1 h2 => by rw [upd_ne h1, upd_ne h2]⟩ (fun i H' _ h => SqL.of h.2.1) ?_ ?_
    · rintro i y H' hi ⟨g1, g2, g3⟩
      obtain ⟨z, hz, rfl⟩ : ∃ z, ns[i]? = some z ∧ y = V.int z := by
        rw [List.getElem?_map] at hi
        cases e : ns[i]? with
        | none =>
          rw [e] at hi
          cases hi
        | some z =>
          rw [e] at hi
          exact ⟨z, rfl, (Option.some.inj hi).symm⟩
      refine ⟨rfl, ?_⟩
      have step : ∃ acc, H' D = some (.lst acc) ∧ acc.length < sizeLine ∧ (upd H' D (.lst (acc ++ [V.int z]))) D = some (.lst ((ns.take (i + 1)).map V.int)) ∧ (upd H' D (.lst (acc ++ [V.int z]))) p = some (.lst (ns.map V.int)) ∧
          ∀ c, c ≠ D → c ≠ p → (upd H' D (.lst (acc ++ [V.int z]))) c = H c := by
        refine ⟨_, g1, ?_, ?_⟩
        · rw [List.length_map, List.length_take]
          exact small1000 (by omega)
        · refine ⟨?_, by rw [upd_ne hpD]; exact g2, fun c h1 h2 => by rw [upd_ne h1]; exact g3 c h1 h2⟩
          rw [upd_same, List.take_succ, hz, Option.toList_some, List.map_append]
          rfl
      exact ⟨V.int z, rfl, .inl ⟨z, rfl, step⟩⟩
    · rintro H' ⟨g1, g2, g3⟩
      rw [List.length_map, List.take_length] at g1
      refine ⟨(by show 4 ≤ sizeLine; decide), fun b hb => ?_⟩
      have hDb : D ≠ b := ne_of_none g1 hb
      have hpb : p ≠ b := ne_of_none g2 hb
      refine k b D _ ⟨ns, 0, 0, 0, upd_same, by rw [upd_ne hDb]; exact g1, h63⟩ (by rw [← g3 b (Ne.symm hDb) (Ne.symm hpb)]; exact hb) hD0 fun c o hc => ?_
      have n1 : c ≠ D := ne_of_none hc hD0
      have n2 : c ≠ p := ne_of_none hc hp
      have n3 : c ≠ b := fun z => by
        rw [z, ← g3 b (Ne.symm hDb) (Ne.symm hpb), hb] at hc
        cases hc
      rw [upd_ne n3, g3 c n1 n2]
      exact hc
end
end Law

namespace Law
open PySem PySem.Spec PyProof.Rows L2 Sup
theorem log_of {i : Int} {k : Nat} (hk : 0 < k) (h : i.natAbs < 2 ^ k) : i.natAbs.log2 < k := by
  by_cases hz : i.natAbs = 0
  · rw [hz, Nat.log2_zero]
    exact hk
  · exact (Nat.log2_lt hz).mpr h
def Sz (i : Int) : Prop := i.natAbs < 2 ^ 200
theorem Sz.mul {a b : Int} (ha : a.natAbs < 2 ^ 300) (hb : b.natAbs < 2 ^ 300) : CMulW a b := wide_mul ha hb (by decide) (by decide) (by decide)
theorem Sz.w {a : Int} (ha : Sz a) : a.natAbs < 2 ^ 300 := Nat.lt_of_lt_of_le ha (Nat.pow_le_pow_right (by decide) (by decide))
theorem Sz.t {a : Int} (ha : Sz a) : a.natAbs < 2 ^ 1000 := Nat.lt_of_lt_of_le ha (Nat.pow_le_pow_right (by decide) (by decide))
theorem Sz.of {i : Int} (h : i.natAbs ≤ 10 ^ 42) : Sz i := Nat.lt_of_le_of_lt h (by decide +kernel)
theorem pow_ok {j : Int} (h : 0 ≤ j ∧ j ≤ 1000000) : CPow 10 j := ⟨h.1, h.2, by decide⟩
theorem size_fit {n : Int} (h0 : 0 < n) (h : n ≤ 10 ^ 40) : n.natAbs < 2 ^ 8000 := by
  have h1 : n.natAbs ≤ 10 ^ 40 := by omega
  exact Nat.lt_of_le_of_lt h1 (by decide +kernel)
end Law

/-! for x in xs, xs a list or a tuple; [*xs, y]. -/
namespace ItSeq
open PySem PySem.Spec PyProof.Rows L2
/-- a list or a tuple -/
def Sq (K : PySem.W.Frag) (H : Hp) (a : Addr) (xs : List V) : Prop := SqL K H a xs ∨ SqT K H a xs
theorem sqT_same {K : PySem.W.Frag} {H H' : Hp} {a : Addr} {xs : List V} (h : SqT K H a xs) (s : Same H H') : SqT K H' a xs := by
  rcases h with (h | ⟨o, h⟩) | h
  · exact .inl (.inl (s _ _ h))
  · exact .inl (.inr ⟨o, s _ _ h⟩)
  · exact .inr h
theorem sqL_same {K : PySem.W.Frag} {H H' : Hp} {a : Addr} {xs : List V} (h : SqL K H a xs) (s : Same H H') : SqL K H' a xs := by
  rcases h with (h | ⟨o, h⟩) | h
  · exact .inl (.inl (s _ _ h))
  · exact .inl (.inr ⟨o, s _ _ h⟩)
  · exact .inr h
theorem Sq.same {K : PySem.W.Frag} {H H' : Hp} {a : Addr} {xs : List V} (h : Sq K H a xs) (s : Same H H') : Sq K H' a xs := h.imp (sqL_same · s) (sqT_same · s)
/-- whichever it is, it is walked alike as long as all stands -/
def iSeq (K : PySem.W.Frag) (tl : TE) : TI := fun σ H R => tl σ H fun x H1 => ∃ a xs, x = .ref a ∧ Sq K H1 a xs ∧ ∀ J, Walk J xs.length (fun H => Same H1 H) (YAt xs) → R J H1
theorem pi_seq {X : Cx} {tg l : Expr} {tl : TE} (hl : PE X l tl) : PI X tg l (iSeq X.K tl) := by
  refine ⟨fun pins s σ H R I h => ?_⟩
  refine thn (hl.run pins s σ H _ I h) fun v s1 ⟨x, H1, I1, r1, a, xs, e, hq, q⟩ => ?_
  subst e
  cases r1
  have fp : ∀ b ∈ [s1.heap.objs.size], FpOk X pins H1 b := fun b hb => by
    rw [List.mem_singleton] at hb
    subst hb
    exact I1.fpOk (Nat.le_refl _) (I1.hok.fresh (Nat.le_refl _))
  rcases hq with hq | hq
  · obtain ⟨its, rv, p, hz⟩ := I1.list hq
    exact wpAny_pyIter_list p.isList ⟨s1.heap.objs.size, [s1.heap.objs.size], _, _, H1, rfl, I1.kept (t' := s1.toks) fun b o e => Heap.get?_push_of_some _ e, turn_list a _, ⟨_, Heap.get?_push_size _ rfl, rfl, rfl⟩, fp,
      q _ (walk_list.mono (fun _ s => sqL_same hq s) fun _ _ _ _ _ _ y => y)⟩
  · obtain ⟨its, rv, p, hz⟩ := I1.tuple hq
    exact wpAny_pyIter_tuple (show s1.heap.IsTuple a its.toArray from p) ⟨s1.heap.objs.size, [s1.heap.objs.size], _, _, H1, rfl, I1.kept (t' := s1.toks) fun b o e => Heap.get?_push_of_some _ e, turn_tuple a _, ⟨_, Heap.get?_push_size _ rfl, rfl, rfl⟩, fp,
      q _ (walk_tup.mono (fun _ s => sqT_same hq s) fun _ _ _ _ _ _ y => y)⟩
end ItSeq

/-! enumerate(xs), xs a list or a tuple. -/
namespace EnumT
open PySem PySem.Spec PyProof.Rows L2 ItSeq
theorem meets_newT (l : Addr) (items : Array Value) (o : Obj) :
    Meets (Builtin.«enumerate.__new__» ⟨[.type "enumerate", .ref l], []⟩) (fun _ R s => (s.heap.get? l = some o ∧ o.cls = .type "tuple" ∧ s.heap.IsTuple l items) ∧
      R (.ok (.ret (.ref (s.heap.push { cls := .type "tuple_iterator", data := .fields #[.ref l, .int 0 0] }).objs.size)))
        { s with heap := (s.heap.push { cls := .type "tuple_iterator", data := .fields #[.ref l, .int 0 0] }).push { cls := .type "enumerate", data := .fields #[.none, .bool false, .ref s.heap.objs.size, rawInt 0, .none, .none] } }) :=
  .of_wp fun prog w A R s h => by
    obtain ⟨hp, g, d, tk, os⟩ := s; obtain ⟨⟨hl, hc, hL⟩, h⟩ := h
    have hsub := sub_enumerate
    replace hL : Heap.IsTuple (Shared.heap ⟨hp, g, d, tk, os⟩) l items := hL
    wp_walk using AutoSeq1.wpAny_loadPart' hl
    refine wpAny_stack_any fun st => wpAny_pure ?_
    split
    · rename_i c _ _ _ _ _
      cases (c == Value.type "enumerate")
      · wp_walk using AutoSeq1.wpAny_loadPart' hl, wpAny_pyIter_tuple hL
        exact ⟨_, rfl, h⟩
      · wp_walk using AutoSeq1.wpAny_loadPart' hl, wpAny_pyIter_tuple hL
        exact ⟨_, rfl, h⟩
    · wp_walk using AutoSeq1.wpAny_loadPart' hl, wpAny_pyIter_tuple hL
      exact ⟨_, rfl, h⟩
section
variable {prog : Program} {w : World} {A : Around} {E : Value → Shared → Prop} {s : Shared}
theorem call_tuple {l : Addr} {items : Array Value} {Q : Value → Shared → Prop} (hL : s.heap.IsTuple l items)
    (h : ∀ h', IsEnum h' (s.heap.objs.size + 1) s.heap.objs.size 0 .none → h'.IsTupleIter s.heap.objs.size l 0 → h'.objs.size = s.heap.objs.size + 2 →
      (∀ b o, s.heap.get? b = some o → h'.get? b = some o) → Q (.ref (s.heap.objs.size + 1)) { s with heap := h' }) :
    wpAny (model prog w) A (call (.type "enumerate") [.ref l]) Q E s := by
  obtain ⟨o, hl, hc, n, hd⟩ := id hL
  refine callType_new F.called_enumerate (by decide) (F.typeCall_enumerate_1 _) (F.newCall_enumerate_1 _) (fun obj => F.args_object_init_2 obj _) F.entry_enumerate_new
    (meets_newT l items o) ⟨⟨hl, hc, hL⟩, ?_⟩
  have hz : (s.heap.push { cls := .type "tuple_iterator", data := .fields #[.ref l, .int 0 0] }).objs.size = s.heap.objs.size + 1 := Heap.size_push ..
  show _ ∧ _
  rw [hz]
  have he : IsEnum ((s.heap.push { cls := .type "tuple_iterator", data := .fields #[.ref l, .int 0 0] }).push
      { cls := .type "enumerate", data := .fields #[.none, .bool false, .ref s.heap.objs.size, rawInt 0, .none, .none] }) (s.heap.objs.size + 1) s.heap.objs.size 0 .none := by
    have := Heap.get?_push_size (s.heap.push { cls := .type "tuple_iterator", data := .fields #[.ref l, .int 0 0] })
      (o := { cls := .type "enumerate", data := .fields #[.none, .bool false, .ref s.heap.objs.size, rawInt 0, .none, .none] }) rfl
    rw [hz] at this; exact this
  refine ⟨⟨_, he, rfl⟩, h _ he ⟨_, Heap.get?_push_of_some _ (Heap.get?_push_size _ rfl), rfl, rfl⟩ (by rw [Heap.size_push, hz]) fun b o x => Heap.get?_push_of_some _ (Heap.get?_push_of_some _ x)⟩
end
/-- the tuple at a, each item in a new pair -/
def Itet (K : PySem.W.Frag) (a : Addr) : It :=
  ⟨fun i H => ∃ (xs : List V) (x : V), SqT K H a xs ∧ xs[i]? = some x, fun i H v H' => ∃ T x, v = .ref T ∧ H T = none ∧ H' = upd H T (.tup [.int (i : Nat), x]) ∧ ∀ xs, SqT K H a xs → xs[i]? = some x, fun i H => ∃ xs : List V, SqT K H a xs ∧ xs.length = i⟩
theorem turn_enumT {P : Program} {w : World} {K : PySem.W.Frag} {elts : List Expr} {kk : Nat} {tpos : Pos} (a e it : Addr) :
    Turn P w K (.Tuple elts kk tpos) (Itet K a) [e, it] e (fun i h => (∃ old, IsEnum h e it ((i : Nat) : Int) old) ∧ h.IsTupleIter it a i ∧ e ≠ it ∧ e ≠ a ∧ a ≠ it) where
  mem := by simp
  obj := fun i h st b hb => by
    obtain ⟨⟨old, he⟩, ⟨o, ho, hc, hd⟩, _⟩ := st
    have e' : b = e ∨ b = it := by simpa using hb
    rcases e' with z | z
    · rw [z]; exact ⟨_, he, fun v q => nomatch q⟩
    · rw [z]; exact ⟨o, ho, fun v q => by rw [hd] at q; cases q⟩
  keep := fun i h h' st k => let ⟨⟨old, he⟩, hi, hne⟩ := st; ⟨⟨old, k e (by simp) _ he⟩, hi.at fun o q => k it (by simp) o q, hne⟩
  item := by
    intro X hP hw hK hc i pins s σ H E I hf st hg
    subst hP hw hK
    obtain ⟨⟨old, he⟩, hit, hne, hea, hai⟩ := st
    obtain ⟨xs, x, hq, hx⟩ := hg
    obtain ⟨its, rv, p, hz⟩ := I.tuple hq
    obtain ⟨u, hu, ru⟩ := rv.get hx
    have hel : e < s.heap.objs.size := Heap.lt_size he
    have hil : it < s.heap.objs.size := by obtain ⟨_, q, _⟩ := hit; exact Heap.lt_size q
    have hlt : i < its.toArray.size := by
      have := (List.getElem?_eq_some_iff.mp hu).1
      simpa using this
    have D := Draws.tuple (prog := X.prog) (w := X.w) (A := X.A.in1) (I.ok.hd hc) it a hai its.toArray
    refine wpAny_pyNext_enum_itemD D he ⟨hit, show s.heap.IsTuple a its.toArray from p⟩ hlt hne (by simp [hne, hea]) fun y h' tk hy ho hst hT hsz hk => ?_
    have ey : y = u := by
      have z : its.toArray[i]? = some u := by simpa using hu
      rw [z] at hy
      exact (Option.some.inj hy).symm
    subst ey
    refine ⟨_, rfl, wpAny_letOwnedTupleGo_enum (s := { s with heap := h', toks := tk + 1 }) ho fun h'' he' sb => ?_⟩
    have hT2 : h''.get? s.heap.objs.size = some { cls := .type "tuple", data := .seq #[.int i tk, y] } := (sb.2 _ (Nat.ne_of_gt hel)).trans hT
    have new : ObjOk X.prog X.w (upd H s.heap.objs.size (.tup [.int (i : Nat), x])) h'' s.heap.objs.size (.tup [.int (i : Nat), x]) :=
      ⟨by show 2 ≤ sizeLine; decide, [.int i tk, y], .cons ⟨_, rfl⟩ (.cons ru .nil), ⟨_, hT2, rfl, _, rfl⟩⟩
    have I1 : Inv X pins σ (upd H s.heap.objs.size (.tup [.int (i : Nat), x])) { s with heap := h'', toks := tk + 1 } :=
      I.turnedNew (ch := [e, it]) (fun b ob hb q => (sb.2 b (fun z => hb (by simp [z]))).trans (hk b ob (fun z => hb (by simp [z])) (fun z => hb (by simp [z])) q)) hf (Nat.le_refl _) new
    refine ⟨.ref s.heap.objs.size, _, I1, rfl, ⟨_, x, rfl, I.hok.fresh (Nat.le_refl _), rfl, fun ys hy => by rw [I.tuple_inj hy hq]; exact hx⟩, ⟨⟨y, ?_⟩, hst.1.at fun o q => (sb.2 it (Ne.symm hne)).trans q, hne, hea, hai⟩, fun b hb => ?_⟩
    · have e1 : ((i + 1 : Nat) : Int) = (i : Int) + 1 := by omega
      rw [e1]; exact he'
    · have hb' : b < s.heap.objs.size := by
        have e' : b = e ∨ b = it := by simpa using hb
        rcases e' with z | z
        · rw [z]; exact hel
        · rw [z]; exact hil
      rw [upd_ne (Nat.ne_of_lt hb')]
      exact (hf b hb).1
  done := by
    intro X hP hw hK hc i pins s σ H E I hf st hg
    subst hP hw hK
    obtain ⟨⟨old, he⟩, hit, hne, hea, hai⟩ := st
    obtain ⟨xs, hq, hx⟩ := hg
    obtain ⟨its, rv, p, hz⟩ := I.tuple hq
    obtain ⟨f0, f1, f2, f3, f4, f5⟩ := hf it (by simp)
    have hl := rv.length
    have D := Draws.tuple (prog := X.prog) (w := X.w) (A := X.A.in1) (I.ok.hd hc) it a hai its.toArray
    have ei : i = its.toArray.size := by simp; omega
    refine wpAny_pyNext_enum_endD D he ⟨by rw [← ei]; exact hit, show s.heap.IsTuple a its.toArray from p⟩ fun h' eb => ⟨rfl, I.turned (t' := s.toks) (fun b o hb q => eb b o hb q) f0 f1 f3 f4 f5⟩
  self := fun A i s Q E st h => let ⟨⟨_, he⟩, _⟩ := st; wpAny_pyIter_enum he h
theorem walk_enumT {K : PySem.W.Frag} {a : Addr} {xs : List V} : Walk (Itet K a) xs.length (fun H => SqT K H a xs ∧ ∀ ys, SqT K H a ys → ys = xs) (YPair (fun i => some (.int (i : Nat))) (fun i => xs[i]?)) := by
  refine ⟨fun i _ hi q => ⟨xs, xs[i], q.1, by simp [hi]⟩, fun _ q => ⟨xs, q.1, rfl⟩, fun i H v H' _ q y => ?_⟩
  obtain ⟨T, x, h1, h2, h3, h4⟩ := y
  exact ⟨T, .int (i : Nat), x, h1, h2, h3, rfl, h4 xs q.1⟩
/-- a list or a tuple enumerated: whichever it is, it is walked alike as long as all stands -/
def iEnS (K : PySem.W.Frag) (ta : TA) : TI := fun σ H R => ta σ H fun vs H1 => ∃ a xs, vs = [.ref a] ∧ Sq K H1 a xs ∧ ∀ J, Walk J xs.length (fun H => Same H1 H) (YPair (fun i => some (.int (i : Nat))) (fun i => xs[i]?)) → R J H1
theorem pi_enS {X : Cx} {e : Expr} {ta : TA} {p pos tpos : Pos} {elts : List Expr} {kk : Nat} (hg : Gl X "enumerate") (hm : X.mg "enumerate" = none) (ha : PA X [e] ta) (hs : starEach [e] X.env = [(false, eval e X.env)] := by rfl) :
    PI X (.Tuple elts kk tpos) (.Call (.Name "enumerate" p) [e] [] pos) (iEnS X.K ta) := by
  refine ⟨fun pins s σ H R I h => ?_⟩
  refine Call_ (ld_blt I hg hm boot_enumerate (PyProof.Rows.callWith_type1 (thn (ha.run pos pins s σ H _ I h) fun us s1 ⟨vs, H1, I1, r1, q1⟩ => ?_) hs rfl))
  obtain ⟨a, xs, ex, hq, q⟩ := q1
  subst ex
  cases r1 with
  | cons r rr =>
    cases rr
    cases r
    have fp : ∀ b ∈ [s1.heap.objs.size + 1, s1.heap.objs.size], FpOk X pins H1 b := fun b hb => by
      have e' : b = s1.heap.objs.size + 1 ∨ b = s1.heap.objs.size := by simpa using hb
      have hle : s1.heap.objs.size ≤ b := by
        rcases e' with z | z
        · rw [z]; exact Nat.le_add_right _ _
        · rw [z]; exact Nat.le_refl _
      exact I1.fpOk hle (I1.hok.fresh hle)
    rcases hq with hq | hq
    · obtain ⟨its, rv, p', hz⟩ := I1.list hq
      refine call_enumerate_list p'.isList fun h' he hit hsz hk => wpAny_pyIter_enum he ?_
      have I2 : Inv X pins σ H1 { s1 with heap := h' } := I1.kept (t' := s1.toks) hk
      exact ⟨s1.heap.objs.size + 1, [s1.heap.objs.size + 1, s1.heap.objs.size], _, _, H1, rfl, I2, turn_enum a (s1.heap.objs.size + 1) s1.heap.objs.size, ⟨⟨.none, he⟩, hit, Nat.succ_ne_self _⟩, fp, q _ (walk_enum.mono (fun _ s => sqL_same hq s) fun _ _ _ _ _ _ y => y)⟩
    · obtain ⟨its, rv, p', hz⟩ := I1.tuple hq
      have hlt : a < s1.heap.objs.size := by
        obtain ⟨o, z, _⟩ := p'
        exact Heap.lt_size z
      refine call_tuple (show s1.heap.IsTuple a its.toArray from p') fun h' he hit hsz hk => wpAny_pyIter_enum he ?_
      have I2 : Inv X pins σ H1 { s1 with heap := h' } := I1.kept (t' := s1.toks) hk
      refine ⟨s1.heap.objs.size + 1, [s1.heap.objs.size + 1, s1.heap.objs.size], _, _, H1, rfl, I2, turn_enumT a (s1.heap.objs.size + 1) s1.heap.objs.size, ⟨⟨.none, he⟩, hit, Nat.succ_ne_self _, Ne.symm (Nat.ne_of_lt (Nat.lt_succ_of_lt hlt)), Nat.ne_of_lt hlt⟩, fp, q _ ⟨fun i H hi s => ⟨xs, xs[i], sqT_same hq s, by simp [hi]⟩, fun H s => ⟨xs, sqT_same hq s, rfl⟩, fun i H v H' _ s y => ?_⟩⟩
      obtain ⟨T, x, h1, h2, h3, h4⟩ := y
      exact ⟨T, .int (i : Nat), x, h1, h2, h3, rfl, h4 xs (sqT_same hq s)⟩
end EnumT

/-! A list comprehension whose conditions and element may raise. -/
namespace CompY
open PySem PySem.Spec PyProof.Rows L2
section
variable {X : Cx} {W : WX} {pins : List (Addr × Obj)} {σ : L2.St} {H3 : Hp} {s3 : Shared} {scope : Scope} {ce : Env} {fp : List Addr} {use : Option (Value → Sem Unit)} {Qf : Value → Shared → Prop} {D : Addr}
/-- where the block's exceptions go -/
def airOf (X : Cx) (ce : Env) (use : Option (Value → Sem Unit)) (Qf : Value → Shared → Prop) (D : Addr) : Value → Shared → Prop :=
  notedBy (model X.prog X.w) X.A ce fun e s' => compEnds (model X.prog X.w) X.A X.xe use Qf (.ref D) ce (.error e) s'
theorem air (hst : X.stack = X.env :: X.outer) (hfr : X.env.frame = some X.env.locals) (tk : Takes X W) (I3 : L2.Inv X pins σ H3 s3) (hL : ce.locals = s3.heap.objs.size) (hce : ce.frame = X.env.frame)
    (hfp : ∀ b ∈ fp, FpOk X pins H3 b) {pn : List (Addr × Obj)} {τ : L2.St} {H : Hp} {s : Shared} {e : Value} {s' : Shared} (J0 : L2.Inv ((X.blk s3 H3 scope ce fp).tr [] (airOf X ce use Qf D)) pn τ H s)
    (c : L2.CX X.prog X.w X.stack H s (fun cls d H' => W cls d σ H') e s') : airOf X ce use Qf D e s' := by
  have c0 := c
  obtain ⟨a, _, _, _, _, rfl, fly, _⟩ := c
  obtain ⟨a', B, sI, pn2, τ2, H2, cls, d, ea, J, nb, up, sky, na, os, ag, w⟩ := XE.of_call (X := (X.blk s3 H3 scope ce fp).tr [] (airOf X ce use Qf D)) (W := fun cls d _ H' => W cls d σ H') J0 (fun _ _ _ z => z) c0
  cases ea
  have nb : ∀ b o, sI.heap.get? b = some o → b ∉ frs X.stack → B.get? b = some o := nb
  have fl : HandSPX.FlyingZ B (X.env :: X.outer) a (Zc cls d) s'.heap := by
    have sky : Sky B X.stack a (Zc cls d) ce.locals s'.heap := sky
    rw [hst] at sky
    obtain ⟨_, _, _, o2, v2, T2, t2, ts2, g1, _, g3, g4, _, _, g7, g8, g9⟩ := fly
    rcases sky with ⟨_, _, _, o1, v1, k1, _, k3, k4⟩ | z | ⟨_, _, _, o1, v1, T1, t1, ts1, k1, _, k3, k4, _, _, k7, k8, k9⟩
    · rw [g1] at k1
      cases k1
      rw [g3] at k3
      cases k3
      rw [g4] at k4
      cases k4
    · exact z
    · rw [g1] at k1
      cases k1
      rw [g3] at k3
      cases k3
      rw [g4] at k4
      cases k4
      rw [g7] at k7
      cases k7
      rw [g8] at k8
      cases k8
      rw [g9] at k9
      cases k9
  obtain ⟨m, nsI, _⟩ := J.loc
  have nsI : sI.heap.Ns ce.locals m := nsI
  have fA : X.A.frames = some (X.env :: X.outer) := by rw [I3.ok.frames, hst]
  show wpAny _ _ (noteFrame (.ref a) ce) _ _ _
  rw [noteFrame_env _ hce]
  refine HandSPX.looks_onZ Zc.steady fA hfr fl fun h1 hh up1 => ?_
  have ns1 : h1.Ns ce.locals m := Heap.Ns.upToSlots nsI (up.trans up1)
  have goal : CompFails (model X.prog X.w) X.A X.xe ce (.ref a) { s' with heap := h1 } := by
    refine ⟨m, ns1, fun h2 m2 ns2 sb => ?_⟩
    obtain ⟨y1, y2, y3, oe, vs, T, oT, ts, he, hz, hd, hv, hnT, hTe, hT, hdT, h3⟩ := hh
    have ofC : ∀ {b : Addr} {o : Obj} {us : Array Value}, h1.get? b = some o → o.data = .fields us → b ≠ ce.locals := fun {b o us} q1 q2 z => by
      obtain ⟨oL, _, _, r1, r2, _⟩ := ns1
      rw [z, r1] at q1
      cases q1
      rw [r2] at q2
      cases q2
    have keep : ∀ {b : Addr}, b ≠ ce.locals → h2.get? b = h1.get? b := fun {b} n => sb.2 b n
    have nC : H2 ce.locals = none := J.free
    have hid : ∀ {h : Heap} {b : Addr} {o : Obj}, (PySem.W.hideAll h [ce.locals]).get? b = some o → b ≠ ce.locals ∧ h.get? b = some o := fun {h b o} q =>
      ⟨fun z => (by
        rw [z, PySem.W.hideAll_none _ List.mem_cons_self] at q
        cases q), PySem.W.of_hideAll _ q⟩
    have hidN : ∀ {h : Heap} {b : Addr}, h.get? b = none → (PySem.W.hideAll h [ce.locals]).get? b = none := fun {h b} q => by
      cases z : (PySem.W.hideAll h [ce.locals]).get? b with
      | none => rfl
      | some o =>
        rw [(hid z).2] at q
        cases q
    have held : HandSPX.HeldZ (PySem.W.hideAll B [ce.locals]) (X.env :: X.outer) a (Zc cls d) X.env.locals h2 := by
      refine ⟨fun b o q => ?_, hidN y2, ?_, oe, vs, T, oT, ts, (keep (ofC he hd)).trans he, hz, hd, hv, hidN hnT, hTe, (keep (ofC hT hdT)).trans hT, hdT, h3⟩
      · obtain ⟨n, q'⟩ := hid q
        exact (keep n).trans (y1 b o q')
      · exact funFrames_none (Heap.FunFrames.sameBut sb ns2 y3) fun b hb => hidN (y3.mem hb).1
    have I7 : L2.Inv X pins σ H2 sI := I3.call' (ch := fp) J.os J.base J.hok J.bare fun b hb => by
      obtain ⟨_, z1, _, z3, z4, z5⟩ := hfp b hb
      exact ⟨z3, z1, z4, z5⟩
    obtain ⟨f0, f1, f2, f3, f4, f5⟩ := I3.fpOk (b := ce.locals) (Nat.le_of_eq hL.symm) nC
    have I8 := I7.turned (t' := sI.toks) (it := ce.locals) (h' := PySem.W.hideAll sI.heap [ce.locals]) (fun b o n q => PySem.W.hideAll_get _ q (by simpa using n)) f0 f1 f3 f4 f5
    unfold PySem.passOn
    refine wpAny_bind (wpAny_field ((keep (ofC he hd)).trans he) hd hv ?_)
    rw [if_neg (show ¬ ((Value.ref T == Value.none) = true) from by simp)]
    have fin : wpAny (model X.prog X.w) X.A (setFlight (.ref a) ce.frame) (fun _ s4 => wpAny (model X.prog X.w) X.A (throw (.ref a) : Sem Value) (fun _ _ => False) X.xe s4) X.xe { s' with heap := h2 } := by
      rw [hce, hfr]
      refine HandSPX.setFlight_onZ held fun h4 hh4 up4 => wpAny_throw (tk _ _ ⟨a, PySem.W.hideAll B [ce.locals], _, pins, σ, H2, cls, d, rfl, I8, fun b o q n => ?_, fun b o q n => ?_, .inr (.inr (by rw [hst]; exact hh4)), na, os, ag, w⟩)
      · obtain ⟨n1, q'⟩ := hid q
        exact PySem.W.hideAll_get _ (nb b o q' n) (by simpa using n1)
      · obtain ⟨n1, q'⟩ := hid q
        obtain ⟨sl, q2⟩ := (up.trans up1) b o q' n
        obtain ⟨sl2, q3⟩ := up4 b _ ((keep n1).trans q2) n
        exact ⟨sl2, q3⟩
    first
      | exact wpAny_bind (wpAny_pure (wpAny_bind fin))
      | exact wpAny_bind fin
  cases use with
  | none => exact goal
  | some u => exact goal
end
/-- the block's context, its exceptions going to xe -/
abbrev Blk (X : Cx) (s : Shared) (H : Hp) (scope : Scope) (ce : Env) (fp : List Addr) (xe : Value → Shared → Prop) : Cx := (X.blk s H scope ce fp).tr [] xe
section
variable {X : Cx} {W : WX} {elt tg iter : Expr} {ifs : List Expr} {scope : Scope} {own : List (Str × Nat)} {wi : TI} {g : TG} {tt : XK → TT} {te : XK → TE}
/-- what the parts of the comprehension are, in whatever block -/
structure Parts (X : Cx) (elt tg iter : Expr) (ifs : List Expr) (scope : Scope) (own : List (Str × Nat)) (wi : TI) (g : TG) (tt : XK → TT) (te : XK → TE) : Prop where
  calm : X.calm = true
  nd : X.N.Nodup
  it : PI X tg iter wi
  ok : BlkOk X.N X.env.scope scope own
  tgt : ∀ s H C cl fp xe, PG (Blk X s H scope (compEnvC scope cl C X.env) fp xe) tg g
  tst : ∀ s H C cl fp xe (E : XK), (∀ τ, PassesAt (L2.CX X.prog X.w) (Blk X s H scope (compEnvC scope cl C X.env) fp xe) τ E) → PTs (Blk X s H scope (compEnvC scope cl C X.env) fp xe) ifs (tt E)
  elm : ∀ s H C cl fp xe (E : XK), (∀ τ, PassesAt (L2.CX X.prog X.w) (Blk X s H scope (compEnvC scope cl C X.env) fp xe) τ E) → PE (Blk X s H scope (compEnvC scope cl C X.env) fp xe) elt (te E)
  fold : ∀ x, foldedSetIterable iter X.env x = pure x
theorem core {pins : List (Addr × Obj)} {s : Shared} {σ : L2.St} {H : Hp} {Q : VK} {pos pos' : Pos} {use : Option (Value → Sem Unit)} {Qf : Value → Shared → Prop} (hst : X.stack = X.env :: X.outer) (hfr : X.env.frame = some X.env.locals) (tk : Takes X W)
    (P : Parts X elt tg iter ifs scope own wi g tt te) (I : L2.Inv X pins σ H s) (h : tLc wi g (tt fun cls d H' => W cls d σ H') (te fun cls d H' => W cls d σ H') (own.map (·.2)) σ H Q)
    (hRR : ∀ (D : Addr) (ce : Env) s' m H', L2.Inv X pins σ H' s' → Q (.ref D) H' → s'.heap.Ns ce.locals m → FpOk X pins H' ce.locals → compEnds (model X.prog X.w) X.A X.xe use Qf (.ref D) ce (.ok .next) s') :
    wpAny (model X.prog X.w) X.A (comprehension (.ListComp elt [⟨tg, iter, ifs, 0⟩] scope pos) scope X.env pos' (newList []) false (eval iter X.env) use) Qf X.xe s := by
  have ok := P.ok
  have free : ∀ y ∈ scope.names, y.2 = .free → ∃ c, X.env.cells.lookup y.1 = some c := fun y hy e => (ok.free y hy e).elim (fun k => I.ok.has _ (.inl k)) fun k => I.ok.has _ (.inr k)
  refine comprehension_at (use := use) rfl P.fold (closure_ok free) ok.kind (fun y hy e => (ok.uniq y hy).trans (congrArg some e))
    (thn (P.it.run pins s σ H _ I h) fun v0 s1 k1 => thn k1 fun v1 s2 k2 => ?_)
  obtain ⟨it, fp, tn, J, H2, rfl, I2, T, t2, f2, q⟩ := k2
  refine wpAny_newObj_type (newEnv_comp ?_) (by show 0 ≤ sizeLine; decide)
  obtain ⟨D, hD⟩ : ∃ D, D = s2.heap.objs.size := ⟨_, rfl⟩
  rw [← hD]
  have nD : H2 D = none := I2.hok.fresh (Nat.le_of_eq hD.symm)
  obtain ⟨Wv, ⟨m0, w0⟩, turn⟩ := q D nD
  obtain ⟨s3, hs3⟩ : ∃ s3 : Shared, s3 = { s2 with heap := s2.heap.push { cls := .type "list", data := .seq ([] : List Value).toArray } } := ⟨_, rfl⟩
  have I3 : L2.Inv X pins σ (upd H2 D (.lst [])) s3 := by
    subst hs3 hD
    exact I2.laid (t' := s2.toks) (fun b o e => Heap.get?_push_of_some _ e) (Nat.le_refl _) ⟨Nat.zero_le _, [], 0, .nil, Heap.get?_push_size _ rfl⟩
  have old : ∀ b o, s2.heap.get? b = some o → s3.heap.get? b = some o := fun b o e => by
    rw [hs3]
    exact Heap.get?_push_of_some _ e
  have lt2 : ∀ b ∈ fp, b < s2.heap.objs.size := fun b hb => by
    obtain ⟨o, e, _⟩ := T.obj _ _ t2 b hb
    exact Heap.lt_size e
  have f3 : ∀ b ∈ fp, FpOk X pins (upd H2 D (.lst [])) b ∧ b < s3.heap.objs.size := fun b hb => by
    have l := lt2 b hb
    refine ⟨⟨(upd_ne (by rw [hD]; exact Nat.ne_of_lt l)).trans (f2 b hb).1, (f2 b hb).2⟩, ?_⟩
    rw [hs3]
    show b < (s2.heap.push _).objs.size
    rw [Heap.size_push]
    exact Nat.lt_succ_of_lt l
  have t3 : tn 0 s3.heap := T.keep _ _ _ t2 fun b _ o e => old b o e
  have I4 := block_start I3 ok P.nd f3
  obtain ⟨H3, hH3⟩ : ∃ H3, H3 = upd H2 D (.lst []) := ⟨_, rfl⟩
  rw [← hH3] at I3 I4 f3 w0
  obtain ⟨cl, hcl⟩ : ∃ cl, cl = cellsFrom (s3.heap.objs.size + 1) scope.names (cloFrom X.env.cells scope.names []) := ⟨_, rfl⟩
  rw [← hcl] at I4
  have pgT := P.tgt s3 H3 s3.heap.objs.size cl fp
  have ptT := P.tst s3 H3 s3.heap.objs.size cl fp
  have peT := P.elm s3 H3 s3.heap.objs.size cl fp
  obtain ⟨s4, hs4⟩ : ∃ s4 : Shared, s4 = { s3 with heap := pushCells (s3.heap.push { cls := .type "dict", data := .dict #[] }) scope.names } := ⟨_, rfl⟩
  rw [← hs4] at I4
  have t4 : tn 0 s4.heap := T.keep _ _ _ t3 fun b _ o e => by
    rw [hs4]
    exact pushCells_keeps _ _ _ _ (Heap.get?_push_of_some _ e)
  have key : codeAny (model X.prog X.w) X.A (.compStart (.ListComp elt [⟨tg, iter, ifs, 0⟩] scope pos) 0 (.ref it) (.ref D) (compEnvC scope cl s3.heap.objs.size X.env))
      (compEnds (model X.prog X.w) X.A X.xe use Qf (.ref D) (compEnvC scope cl s3.heap.objs.size X.env)) s4 := by
    obtain ⟨ce, hce⟩ : ∃ ce, ce = compEnvC scope cl s3.heap.objs.size X.env := ⟨_, rfl⟩
    rw [← hce] at I4 pgT ptT peT ⊢
    have cL : ce.locals = s3.heap.objs.size := by rw [hce]; rfl
    have cF : ce.frame = X.env.frame := by rw [hce]; rfl
    obtain ⟨xe, hxe⟩ : ∃ xe, xe = airOf X ce use Qf D := ⟨_, rfl⟩
    have pass : ∀ τ, PassesAt (L2.CX X.prog X.w) (Blk X s3 H3 scope ce fp xe) τ (fun cls d H' => W cls d σ H') := fun τ pn Hc sc e s' Ic c => by
      subst hxe
      exact air hst hfr tk I3 cL cF (fun b hb => (f3 b hb).1) Ic c
    have I4' : L2.Inv (Blk X s3 H3 scope ce fp xe) [] (wipe σ (own.map (·.2))) H3 s4 := I4.toTry xe
    have nfp : ∀ b ∈ fp, H3 b = none := fun b hb => (f3 b hb).1.1
    have stat : ∀ {τ : L2.St} {H' : Hp} {s' : Shared}, L2.Inv (Blk X s3 H3 scope ce fp xe) [] τ H' s' → (∀ b ∈ fp, H' b = none) → ∀ b ∈ fp, FpOk (Blk X s3 H3 scope ce fp xe) [] H' b := fun {τ H' s'} I' hn b hb =>
      ⟨hn b hb, (I'.ok.exf b hb).1, I'.ok.exfs b hb, .inl hb, fun x c e => (I'.ok.exf b hb).2 x c e, fun p hp => nomatch (show p ∈ ([] : List (Addr × Obj)) from hp)⟩
    have loop : codeAny (model X.prog X.w) X.A (.compLoop (.ListComp elt [⟨tg, iter, ifs, 0⟩] scope pos) 0 (.ref it) (.ref D) ce) (compEnds (model X.prog X.w) X.A X.xe use Qf (.ref D) ce) s4 := by
      refine compLoop_any (fun n s' => ∃ i H', L2.Inv (Blk X s3 H3 scope ce fp xe) [] (wipe σ (own.map (·.2))) H' s' ∧ tn i s'.heap ∧ (∀ b ∈ fp, H' b = none) ∧ Wv i n H') ?_ m0 ⟨0, H3, I4', t4, nfp, w0⟩
      rintro n s5 ⟨i, H5, I5, t5, n5, w5⟩
      rcases turn i n H5 w5 with ⟨stop, qq⟩ | ⟨go, Nx, hNx, step⟩
      · refine thnF (T.done (Blk X s3 H3 scope ce fp xe) rfl rfl rfl P.calm i [] s5 _ H5 (fun _ _ => False) I5 (stat I5 n5) t5 stop) fun r s6 ⟨hr, I6⟩ => ?_
        subst hr
        have I7 : L2.Inv X pins σ H5 s6 := I3.call' (ch := fp) I6.os I6.base I6.hok I6.bare fun b hb => by
          obtain ⟨_, z1, _, z3, z4, z5⟩ := (f3 b hb).1
          exact ⟨z3, z1, z4, z5⟩
        have nC : H5 ce.locals = none := I6.free
        obtain ⟨m, hn, _⟩ := I6.loc
        exact hRR D ce s6 m H5 I7 qq hn (I3.fpOk (Nat.le_of_eq cL.symm) nC)
      · refine thnF (T.item (Blk X s3 H3 scope ce fp xe) rfl rfl rfl P.calm i [] s5 _ H5 (fun _ _ => False) I5 (stat I5 n5) t5 go) fun r s6 ⟨u, hr, h6⟩ => ?_
        subst hr
        refine thnF h6 fun _ s7 ⟨x, H7, I7, r7, y7, t7, n7⟩ => ?_
        have I7' := I7.pinned (stat I7 n7) (T.obj _ _ t7)
        subst hxe
        refine thn ((pgT _).run _ s7 _ H7 x u _ I7' r7 (step x H7 y7)) fun _ s8 ⟨τ, H8, I8, hw, q8⟩ => ?_
        refine thn ((ptT _ _ pass).run _ s8 τ H8 _ I8 q8) fun b s9 ⟨H9, I9, q9⟩ => ?_
        have fin : ∀ {s' : Shared} {H' : Hp}, L2.Inv (Blk X s3 H3 scope ce fp (airOf X ce use Qf D)) ([] ++ pinsAt fp s7.heap) τ H' s' → Nx H' →
            ∃ m, m < n ∧ ∃ i H', L2.Inv (Blk X s3 H3 scope ce fp (airOf X ce use Qf D)) [] (wipe σ (own.map (·.2))) H' s' ∧ tn i s'.heap ∧ (∀ b ∈ fp, H' b = none) ∧ Wv i m H' := fun {s' H'} I' nx => by
          obtain ⟨m', hm, w'⟩ := hNx H' nx
          have pin : ∀ b ∈ fp, ∀ o, s7.heap.get? b = some o → s'.heap.get? b = some o ∧ H' b = none := fun b hb o e => by
            have z := I'.pin (b, o) (List.mem_append_right _ (List.mem_append_right _ (mem_pinsAt hb e)))
            exact ⟨z.1, z.2.1⟩
          refine ⟨m', hm, i + 1, H', (I'.unpinned (pins := [])).weak ?_ fun j v e => ?_, T.keep _ _ _ t7 fun b hb o e => (pin b hb o e).1, fun b hb => ?_, w'⟩
          · rw [← hw, wipe_length]
          · rw [← hw] at e
            exact (wipe_some e).1
          · obtain ⟨o, e, _⟩ := T.obj _ _ t7 b hb
            exact (pin b hb o e).2
        cases b with
        | false =>
          rw [if_neg Bool.false_ne_true] at q9 ⊢
          exact fin I9 q9
        | true =>
          rw [if_pos rfl] at q9 ⊢
          refine thn ((peT _ _ pass).run _ s9 τ H9 _ I9 q9) fun z s10 ⟨yv, H10, I10, r10, acc, hD10, hz10, nx⟩ => ?_
          exact app_ok (X := Blk X s3 H3 scope ce fp (airOf X ce use Qf D)) I10 hD10 hz10 r10 fun s11 I11 => fin I11 nx
    exact codeAny_compStart_list loop (T.self X.A 0 _ _ _ t4 loop)
  subst hs4 hcl hs3
  exact key
/-- the comprehension's reading where its element may raise -/
def tLcX (wi : TI) (g : TG) (tt : XK → TT) (te : XK → TE) (vs : List Nat) (W : WX) : TE := fun σ H Q => tLc wi g (tt fun cls d H' => W cls d σ H') (te fun cls d H' => W cls d σ H') vs σ H Q
/-- [..] -/
theorem pe_lcX {pos : Pos} (hst : X.stack = X.env :: X.outer) (hfr : X.env.frame = some X.env.locals) (tk : Takes X W) (P : Parts X elt tg iter ifs scope own wi g tt te) :
    PE X (.ListComp elt [⟨tg, iter, ifs, 0⟩] scope pos) (tLcX wi g tt te (own.map (·.2)) W) := by
  refine ⟨fun pins s σ H Q I h => ?_⟩
  rw [eval_ListComp]
  refine core (use := none) hst hfr tk P I h fun D ce s' m H' I' q hn f => ⟨m, hn, fun h'' sb => ?_⟩
  obtain ⟨f0, f1, f2, f3, f4, f5⟩ := f
  exact ⟨.ref D, H', I'.turned (t' := s'.toks) (fun b o hb e => (sb.2 b hb).trans e) f0 f1 f3 f4 f5, rfl, q⟩
/-- y = [..] -/
theorem ps_setLcX {i : Nat} {y : Str} {py pos spos : Pos} (hst : X.stack = X.env :: X.outer) (hfr : X.env.frame = some X.env.locals) (tk : Takes X W) (hy : X.N[i]? = some y) (hyl : X.env.scope.names.lookup y = some .local)
    (hsw : swapsWith (.ListComp elt [⟨tg, iter, ifs, 0⟩] scope pos) (some (.Name y py)) spos.line X.env = pure true) (P : Parts X elt tg iter ifs scope own wi g tt te) :
    PS X (.Assign [.Name y py] (.ListComp elt [⟨tg, iter, ifs, 0⟩] scope pos) spos) (tAsg (tLcX wi g tt te (own.map (·.2)) W) (gName i)) := by
  refine ⟨fun pins s σ H D I h => ?_⟩
  rw [exec_Assign_Name_used _ _ _ _ hsw]
  refine wpAny_bind (wpAny_standAt (wpAny_bind ?_))
  show wpAny _ X.A (do let _ ← comprehension (.ListComp elt [⟨tg, iter, ifs, 0⟩] scope pos) scope X.env (firstIterPos [⟨tg, iter, ifs, 0⟩] pos) (newList []) false (eval iter X.env) (some (assign (.Name y py) X.env))) _ _ s
  have h : tLc wi g (tt fun cls d H' => W cls d σ H') (te fun cls d H' => W cls d σ H') (own.map (·.2)) σ H (fun x H1 => gName i x σ H1 D.nx) := h
  refine wpAny_bind (thn (core (Qf := fun _ s' => SP X pins D .next s') hst hfr tk P I h fun L ce s' m H' I' q hn f => ?_) fun _ s' hq => wpAny_pure (wpAny_pure hq))
  show wpAny _ _ (assign (.Name y py) X.env (.ref L)) _ _ _
  refine wpAny_assign_Name (store_ok2 (v := V.ref L) I' P.nd hy (.inl hyl) rfl (fun s2 I2 ⟨a, sb, ha⟩ => ?_) (.inr hyl))
  obtain ⟨f0, f1, f2, f3, f4, f5⟩ := f
  have hne : ce.locals ≠ a := ha.elim (fun z => by rw [z]; exact f1) fun z e => f4 y a z e.symm
  exact ⟨m, hn.sameBut sb hne, fun h3 sb3 => ⟨_, H', I2.turned (t' := s2.toks) (fun b o hb e => (sb3.2 b hb).trans e) f0 f1 f3 f4 f5, q⟩⟩
end
end CompY

/-! cls(..) where cls is a local; C.m(..) of a classmethod that may raise, at the slots. -/
namespace Own
open PySem PySem.Spec PyProof.Rows L2
section
variable {X : Cx} {CX : CXT} {k i : Nat} {C g f p0 : Addr} {sp : Sp} {E : L2.St → XK} {x m : Str} {o e : Expr} {es : List Expr} {t : TA} {ta : TE} {p pos apos : Pos} {mc : Value} {pl : Sem Bool}
theorem pe_makeV (M : Mk X.K C f) (F : FnR X.prog X.w X.K X.mg X.base CX k f sp) (hr : Room (k + 1) X.A) (hN : X.N[i]? = some x) (hv : Vis X.env.scope x) (hx : ∀ σ, PassesAt CX X σ (E σ)) (ha : PA X (e :: es) t) (hd : (x == ("__debug__" : Str)) = false := by decide) (hcd : (x == ("__classdict__" : Str)) = false := by decide)
    (he : starEach (e :: es) X.env = (false, eval e X.env) :: starEach es X.env := by rfl) (hpl : (backTo pos (starEach es X.env)).any (·.1) = false := by rfl) :
    PE X (.Call (.Name x p) (e :: es) [] pos) (fun σ H Q => σ[i]? = some (some (.ref C)) ∧ t σ H fun vs H1 => MkS C sp (E σ) vs H1 Q) := by
  refine ⟨fun pins s σ H Q I h => ?_⟩
  obtain ⟨hs, h⟩ := h
  refine wpAny_Call_Name_kw (thn ((pe_var (pos := p) (i := i) hN hv hd hcd).run pins s σ H (fun v H1 => v = .ref C ∧ H1 = H) I ⟨.ref C, hs, rfl, rfl⟩) fun u s0 ⟨v, H0, I0, r0, ev, eH⟩ => ?_)
  subst ev
  rw [eH] at I0
  cases r0
  refine PySem.W.callWith_K (h₀ := X.base) I0.ok.mod.kin M.kp (thn (ha.run pos pins s0 σ H _ I0 h) fun us s1 ⟨vs, H1, I1, r, q⟩ => ⟨I1.kIn, ?_⟩) he hpl
  have hq := q.run (s1.heap.objs.size + 1) s1.heap.objs.size (I1.hok.fresh (Nat.le_succ _)) (I1.hok.fresh (Nat.le_refl _)) (Nat.ne_of_lt (Nat.lt_succ_self _))
  have I2 := Inv.made (C := C) I1
  have r2 : Vals (V.ref (s1.heap.objs.size + 1) :: vs) (Value.ref (s1.heap.objs.size + 1) :: us) := .cons rfl r
  refine wpAny_call (make_map (f := f) I1.kIn M.makes M.init (beq_iff_eq.mp M.fn) (codeAny_mono (F _ X.stack _ _ (Value.ref (s1.heap.objs.size + 1) :: us) _ _ (E σ) (hr.make C us []) (I2.env0.make C us []) r2 hq) fun r s' hq' => ?_))
  cases r with
  | error e => exact hx σ pins _ _ e s' I2 hq'
  | ok fl =>
    cases fl with
    | ret u =>
      obtain ⟨v, H', I3, rv, ev, q3⟩ := I2.after hq'
      subst ev
      exact ⟨rv, ⟨V.ref (s1.heap.objs.size + 1), H', I3, rfl, q3⟩⟩
    | next => exact False.elim hq'
    | brk => exact False.elim hq'
    | cont => exact False.elim hq'
theorem run_cmS {pins : List (Addr × Obj)} {σ : L2.St} {H : Hp} {s : Shared} {q : Addr} {Q : VK} {us : List Value} {vs : List V} (F : FnR X.prog X.w X.K X.mg X.base CX k g sp) (hr : Room k X.A) (hx : PassesAt CX X σ (E σ)) (I : L2.Inv X ((q, PySem.W.methodObj (.ref g) (.ref C)) :: pins) σ H s)
    (r : Vals vs us) (h : sp (.ref C :: vs) H Q (E σ)) : wpAny (model X.prog X.w) X.A (call (.ref q) us) (EP X pins σ Q) X.xe s := by
  have z : wpAny (model X.prog X.w) X.A (call (.ref q) us) (EP X ((q, PySem.W.methodObj (.ref g) (.ref C)) :: pins) σ Q) X.xe s :=
    wpAny_call (PySem.W.method_call (ClX.pin_at I) (run_fnRS (us := .ref C :: us) (vs := .ref C :: vs) F hr hx I (.cons rfl r) h))
  exact wpAny_mono z (fun _ _ h => ClX.unpinE h) fun _ _ h => h
def tCMethS (C : Addr) (sp : Sp) (E : L2.St → XK) (ta : TE) (t : TA) : TE := fun σ H Q => ta σ H fun x H1 => x = .ref C ∧ t σ H1 fun vs H2 => sp (.ref C :: vs) H2 Q (E σ)
theorem pe_cmethS (he : PE X o ta) (r : ClX.CRead X.K C mc) (c : ClX.CMet X.K C mc m p0 g) (F : FnR X.prog X.w X.K X.mg X.base CX k g sp) (hr : Room k X.A) (hx : ∀ σ, PassesAt CX X σ (E σ)) (ha : PA X (e :: es) t)
    (hst : starEach (e :: es) X.env = (false, eval e X.env) :: starEach es X.env := by rfl) (hpl : (backTo pos (starEach es X.env)).any (·.1) = false := by rfl)
    (ht : eval (.Call (.Attribute o m apos) (e :: es) [] pos) X.env = (do
      let ov ← eval o X.env
      standAt apos.atName
      let (f, first) ← holding [ov] (getMethod ov m pl)
      callWith pos f first (backTo pos (starEach (e :: es) X.env)) (backToKw pos (keywordEach [] X.env))) := by rfl) :
    PE X (.Call (.Attribute o m apos) (e :: es) [] pos) (tCMethS C sp E ta t) := by
  refine ⟨fun pins s σ H Q I h => ?_⟩
  refine PySem.W.methodCall_KW (pl := pl) (thn (he.run pins s σ H _ I h) fun u s1 ⟨x, H1, I1, rx, ex, q⟩ => ?_) ht
  subst ex
  obtain rfl : u = Value.ref C := rx
  refine ClX.getmethcm_ok I1 r c fun s2 I2 => ?_
  refine ClX.callwith_cm I2 (ClX.base_none I1 (Nat.le_refl _)) c.fi (thn (ha.run pos _ s2 σ H1 _ I2 q) fun us s3 ⟨vs, H2, I3, rv, q2⟩ => ⟨⟨ClX.pin_at I3, I3.kIn⟩, ?_⟩) hst hpl
  exact run_cmS F hr (hx σ) I3 rv q2
end
end Own

/-! Unary operators, str, and == against anything, of own classes. -/
namespace Own
open PySem PySem.Spec PyProof.Rows L2
section
variable {X : Cx} {CX : CXT} {k : Nat} {C g : Addr} {sp : Sp} {E : XK}
def rOwn1 (C : Addr) (sp : Sp) (E : XK) : V → Hp → VK → Prop := fun x H Q => ∃ a dx fs, x = .ref a ∧ H a = some (.ins C dx fs) ∧ sp [.ref a] H Q E
theorem un_own (F : FnR X.prog X.w X.K X.mg X.base CX k g sp) (hs : PySem.W.findIn X.K (.ref C) "__invert__" = some (some (.ref g))) (hf : PySem.W.isFn X.K (.ref g) = true) (hr : Room k X.A) (hx : Passes CX X E) :
    UnR X (PySem.unaryOp .Invert) (rOwn1 C sp E) := by
  intro pins s σ H x v Q I rx h
  obtain ⟨a, dx, fs, rfl, ha, hsp⟩ := h
  cases rx
  obtain ⟨mA, J, _⟩ := ins_get I.hok ha
  obtain ⟨od, J, _⟩ := J.look
  obtain ⟨m, hF⟩ := I.fr
  unfold PySem.unaryOp
  refine wpAny_holding ?_
  show wpAny _ _ (PySem.callSpecial? (.ref a) "__invert__" [] >>= _) _ _ _
  refine wpAny_bind (PySem.W.special_fn (I.ok.mod.kin.keeps hF.keep) J hs (beq_iff_eq.mp hf) (wpAny_mono (wpAny_call (run_fnR F hr hx I (us := [.ref a]) (vs := [.ref a]) (.cons rfl .nil) hsp)) (fun _ _ z => wpAny_pure z) fun _ _ z => z))
/-- str of an instance -/
def rStrO (C : Addr) (sp : Sp) (E : XK) : List V → Hp → VK → Prop := fun xs H Q => ∃ a dx fs, xs = [.ref a] ∧ H a = some (.ins C dx fs) ∧ sp [.ref a] H (fun v H' => ∃ y, v = .str y ∧ Q v H') E
theorem call_strO (F : FnR X.prog X.w X.K X.mg X.base CX k g sp) (hs : PySem.W.findIn X.K (.ref C) "__str__" = some (some (.ref g))) (hf : PySem.W.isFn X.K (.ref g) = true)
    (hr : Room (k + 2) X.A) (hx : Passes CX X E) : CallR X (.type "str") (rStrO C sp E) := by
  intro pins s σ H xs us Q I r h
  obtain ⟨a, dx, fs, rfl, ha, hsp⟩ := h
  obtain ⟨u, rfl, r1⟩ : ∃ u, us = [u] ∧ RelV (.ref a) u := by
    cases r with
    | cons r1 rr =>
      cases rr
      exact ⟨_, rfl, r1⟩
  cases r1
  obtain ⟨mA, J, _⟩ := ins_get I.hok ha
  obtain ⟨od, J, _⟩ := J.look
  obtain ⟨m, hF⟩ := I.fr
  refine PySem.W.kso_call ?_ (I.ok.mod.kin.keeps hF.keep) J hs hf (wpAny_mono (run_at F ?_ ?_ hx I (us := [.ref a]) (vs := [.ref a]) (.cons rfl .nil) hsp) (fun u s' z => ?_) fun _ _ z => z)
  · have := hr.un
    show X.A.units + 1 + 1 < _
    omega
  · exact (Room.in1 (k := k + 1) hr).in1
  · exact I.env0.frames
  · obtain ⟨v, H', I', rv, y, rfl, q⟩ := z
    obtain ⟨t, rfl⟩ := rv
    exact ⟨.str y, H', I', ⟨t, rfl⟩, q⟩
/-- an instance compared with a tuple -/
def rOwnT (C : Addr) (sp : Sp) (E : XK) : R2 := fun x y H Q => ∃ a b dx fs ys, x = .ref a ∧ y = .ref b ∧ H a = some (.ins C dx fs) ∧ H b = some (.tup ys) ∧ sp [.ref a, .ref b] H Q E
theorem op_cmpT {op : CmpOp} (hop : ∀ v u, compareOp op v u = richCompare op v u) (F : FnR X.prog X.w X.K X.mg X.base CX k g sp) (hs : PySem.W.findIn X.K (.ref C) (cmpInfo op).2.1 = some (some (.ref g))) (hf : PySem.W.isFn X.K (.ref g) = true)
    (hsub : PySem.W.subIn X.K (.type "tuple") (.ref C) = some false) (hr : Room k X.A) (hx : Passes CX X E) : OpR X (compareOp op) (rOwnT C sp E) := by
  intro pins s σ H x y v u Q I rx ry h
  obtain ⟨a, b, dx, fs, ys, rfl, rfl, ha, hb, hsp⟩ := h
  cases rx
  cases ry
  obtain ⟨mA, J, _⟩ := ins_get I.hok ha
  obtain ⟨od, J, _⟩ := J.look
  obtain ⟨m, hF⟩ := I.fr
  obtain ⟨_, _, _, p⟩ := (show ObjOk X.prog X.w H s.heap b (.tup ys) from I.hok b _ hb)
  obtain ⟨o, h1, h2, _⟩ := p
  rw [hop]
  refine PySem.W.cmp_K (op := op) (tb := .type "tuple") hr.units0 hF I.ok.mod.kin J (PySem.W.kitAt_ty _ _ ⟨o, h1, h2⟩) (by simp [PySem.W.notFirst, hsub]) hs hf ?_
  exact wpAny_mono (wpAny_call (run_fnR F hr hx I (us := [.ref a, .ref b]) (vs := [.ref a, .ref b]) (.cons rfl (.cons rfl .nil)) hsp)) (fun _ _ z => back z) fun _ _ z => z
end
end Own

/-! What the law's own defs of several laws want: comprehensions told by a function, draws, texts as data. -/
namespace Law
open PySem PySem.Spec PyProof.Rows L2
def SameB (b : Addr) (H H' : Hp) : Prop := ∀ c o, c ≠ b → H c = some o → H' c = some o
theorem SameB.of {b : Addr} {H H' : Hp} (k : ∀ c, c ≠ b → H' c = H c) : SameB b H H' := fun c o n e => (k c n).trans e
theorem SameB.trans {b : Addr} {H H1 H2 : Hp} (s : SameB b H H1) (t : SameB b H1 H2) : SameB b H H2 := fun c o n e => t c o n (s c o n e)
theorem SameB.of_same {b : Addr} {H H' : Hp} (s : Same H H') : SameB b H H' := fun c o _ e => s c o e
theorem same_tr {H H1 H2 : Hp} (s : Same H H1) (t : Same H1 H2) : Same H H2 := fun c o e => t c o (s c o e)
theorem same_rfl {H : Hp} : Same H H := fun _ _ e => e
theorem Room.u65 {k : Nat} {A : Around} (r : Room k A) : A.units + 65 < cLine := by have := r.un; omega
theorem Box.free {H : Hp} {b l d : Addr} (B : Box H b l) (h : H d = none) : b ≠ d ∧ l ≠ d := by
  obtain ⟨ns, i, q, s, h1, h2, _⟩ := B
  exact ⟨ne_of_none h1 h, ne_of_none h2 h⟩
theorem Box.at {H : Hp} {b l d : Addr} {o : HO} (B : Box H b l) (n : b ≠ d ∧ l ≠ d) : Box (upd H d o) b l := B.keep fun c hc => by
  rcases hc with rfl | rfl
  · exact upd_ne n.1
  · exact upd_ne n.2
theorem Box.same {H H' : Hp} {b l : Addr} (B : Box H b l) (s : Same H H') : Box H' b l := by
  obtain ⟨ns, i, q, s', h1, h2, h3⟩ := B
  exact ⟨ns, i, q, s', s _ _ h1, s _ _ h2, h3⟩
theorem Box.neT {H : Hp} {b l c : Addr} {xs : List V} (B : Box H b l) (h : H c = some (.tup xs)) : c ≠ b := fun z => by
  obtain ⟨_, _, _, _, q, _⟩ := B
  rw [z, q] at h
  cases h
theorem Box.neD {H : Hp} {b l c : Addr} {kv : List (Key × V)} (B : Box H b l) (h : H c = some (.dK kv)) : c ≠ b ∧ c ≠ l := by
  obtain ⟨_, _, _, _, q, q2, _⟩ := B
  exact ⟨fun z => (by rw [z, q] at h; cases h), fun z => (by rw [z, q2] at h; cases h)⟩
theorem Box.neI {H : Hp} {b l c C dx : Addr} {fs : List (Str × V)} (B : Box H b l) (h : H c = some (.ins C dx fs)) : c ≠ b ∧ c ≠ l := by
  obtain ⟨_, _, _, _, q, q2, _⟩ := B
  exact ⟨fun z => (by rw [z, q] at h; cases h), fun z => (by rw [z, q2] at h; cases h)⟩
theorem same_new {H : Hp} {p : Addr} {o : HO} (h : H p = none) : Same H (upd H p o) := fun b o' e => by
  rw [upd_ne (ne_of_none e h)]
  exact e
theorem none_back {H H' : Hp} {x : Addr} (s : Same H H') (h : H' x = none) : H x = none := by
  cases e : H x with
  | none => rfl
  | some o =>
    have z := s _ _ e
    rw [h] at z
    cases z
/-- within a comprehension whose turn i adds out i (or nothing), all else new -/
def LcP (D : Addr) (H1 : Hp) (out : Nat → Option V) (i : Nat) (H : Hp) : Prop := H D = some (.lst ((List.range i).filterMap out)) ∧ Same H1 H
section
variable {D : Addr} {H1 H H4 : Hp} {out : Nat → Option V} {i : Nat} {y : V}
theorem LcP.start (hD : H1 D = none) : LcP D H1 out 0 (upd H1 D (.lst [])) := ⟨upd_same, same_new hD⟩
theorem fm_len (i : Nat) : ((List.range i).filterMap out).length ≤ i := by
  have := List.length_filterMap_le out (List.range i)
  rw [List.length_range] at this
  exact this
theorem fm_succ : (List.range (i + 1)).filterMap out = (List.range i).filterMap out ++ (out i).toList := by
  rw [List.range_succ, List.filterMap_append]
  cases e : out i <;> simp [e]
theorem LcP.push (h : LcP D H1 out i H) (hD : H1 D = none) (s : Same H H4) (ho : out i = some y) (hi : i < 1000) :
    ∃ acc, H4 D = some (.lst acc) ∧ acc.length < sizeLine ∧ LcP D H1 out (i + 1) (upd H4 D (.lst (acc ++ [y]))) := by
  refine ⟨_, s _ _ h.1, small1000 (Nat.le_of_lt (Nat.lt_of_le_of_lt (fm_len i) hi)), ?_, fun b o e => ?_⟩
  · rw [upd_same, fm_succ, ho]
    rfl
  · rw [upd_ne (ne_of_none e hD)]
    exact s _ _ (h.2 _ _ e)
theorem LcP.skip (h : LcP D H1 out i H) (s : Same H H4) (ho : out i = none) : LcP D H1 out (i + 1) H4 := by
  refine ⟨?_, same_tr h.2 s⟩
  rw [fm_succ, ho, s _ _ h.1]
  simp
end
theorem range_fm {α β : Type} (f : α → Option β) (xs : List α) : (List.range xs.length).filterMap (fun i => xs[i]?.bind f) = xs.filterMap f := by
  induction xs with
  | nil => rfl
  | cons x xs ih =>
    rw [List.length_cons, List.range_succ_eq_map, List.filterMap_cons, List.filterMap_map, List.filterMap_cons]
    have e : (fun i => (x :: xs)[i]?.bind f) ∘ Nat.succ = fun i => xs[i]?.bind f := by
      funext i
      simp
    rw [e, ih]
    simp
theorem range_id {α : Type} (xs : List α) : (List.range xs.length).filterMap (fun i : Nat => xs[i]?) = xs := by
  have e := range_fm (some : α → Option α) xs
  have e1 : (fun i : Nat => xs[i]?.bind some) = fun i : Nat => xs[i]? := by
    funext i
    cases xs[i]? <;> rfl
  rw [e1] at e
  rw [e]
  simp
theorem fm_any {α β : Type} (p : α → Bool) (f : α → β) (xs : List α) : decide ((0 : Int) < (((xs.filterMap fun c => if p c = true then none else some (f c)).length : Nat) : Int)) = xs.any fun c => !p c := by
  induction xs with
  | nil => rfl
  | cons x xs ih =>
    rw [List.filterMap_cons, List.any_cons, ← ih]
    cases h : p x with
    | true => simp
    | false =>
      simp
theorem at_nat {xs : List V} {j : Nat} {v : V} (h : xs[j]? = some v) : atI xs (j : Int) = some v := atI_nat h
/-! texts as data -/
theorem ok_str {y : Str} (h : ∀ c ∈ y.cps.toList, c < 1114112) : PyData.canLay0 (.str y) = true := by
  have e : PyData.canLay0 (.str y) = PyData.strOk y := by simp only [PyData.canLay0]
  rw [e]
  unfold PyData.strOk
  rw [← Array.all_toList, List.all_eq_true]
  intro c hc
  exact decide_eq_true (h c hc)
theorem ok_strs : ∀ {ys : List Str}, (∀ y ∈ ys, ∀ c ∈ y.cps.toList, c < 1114112) → PyData.canLayAll0 (ys.map PyData.str) = true
  | [], _ => by simp only [List.map_nil, PyData.canLayAll0]
  | y :: ys, h => by
    rw [List.map_cons]
    simp only [PyData.canLayAll0]
    rw [Bool.and_eq_true]
    exact ⟨ok_str (h y List.mem_cons_self), ok_strs fun x hx => h x (List.mem_cons_of_mem _ hx)⟩
theorem deep_strs : ∀ ys : List Str, PyData.depthAll (ys.map PyData.str) = 0
  | [] => by simp [PyData.depthAll]
  | y :: ys => by
    rw [List.map_cons]
    simp [PyData.depthAll, PyData.depth, deep_strs ys]
theorem shaped_str {y : Str} (h : ∀ c ∈ y.cps.toList, c < 1114112) : SeqAt.shaped (.str y) = true := by
  unfold SeqAt.shaped
  rw [ok_str h]
  simp [PyData.depth]
theorem shaped_strs {ys : List Str} (h : ∀ y ∈ ys, ∀ c ∈ y.cps.toList, c < 1114112) : SeqAt.shaped (.list (ys.map PyData.str)) = true := by
  unfold SeqAt.shaped
  have e : PyData.canLay0 (.list (ys.map PyData.str)) = true := by
    simp only [PyData.canLay0]
    exact ok_strs h
  rw [e]
  simp [PyData.depth, deep_strs]
theorem dp_strs {K : PySem.W.Frag} {H : Hp} : ∀ ys : List Str, DpAll K H (ys.map V.str) (ys.map PyData.str)
  | [] => .nil
  | _ :: ys => .cons (.str _) (dp_strs ys)
theorem any_strs (ys : List Str) (y : Str) : ((ys.map PyData.str).any fun z => PyData.eqv z (.str y)) = ys.contains y := by
  induction ys with
  | nil => rfl
  | cons x ys ih =>
    rw [List.map_cons, List.any_cons, ih, List.contains_cons]
    have e : PyData.eqv (.str x) (.str y) = (y == x) := by
      simp only [PyData.eqv]
      by_cases h : x = y
      · subst h
        rfl
      · have h1 : (x == y) = false := by simpa using h
        have h2 : (y == x) = false := by simpa using fun z => h z.symm
        rw [h1, h2]
    rw [e]
/-- two shaped data that are told the same are equal -/
theorem eqv_rfl {d : PyData} (h : SeqAt.shaped d = true) : PyData.eqv d d = true := SeqAt.eqv_refl _ (SeqAt.canLay_of_shaped h)
theorem shaped_pair {a b : PyData} (ha : PyData.canLay0 a = true) (hb : PyData.canLay0 b = true) (da : PyData.depth a = 0) (db : PyData.depth b = 0) : SeqAt.shaped (.tuple [a, b]) = true := by
  unfold SeqAt.shaped
  have e : PyData.canLay0 (.tuple [a, b]) = true := by
    simp only [PyData.canLay0, PyData.canLayAll0, ha, hb]
    rfl
  rw [e]
  simp [PyData.depth, PyData.depthAll, da, db]
/-! texts joined without a separator, and cut -/
theorem joinL_mem : ∀ {ls : List (List Nat)} {c : Nat}, c ∈ TL.joinL [] ls → ∃ x ∈ ls, c ∈ x
  | [], c, h => by cases h
  | [p], c, h => ⟨p, List.mem_cons_self, h⟩
  | p :: q :: r, c, h => by
    rcases List.mem_append.mp h with h | h
    · exact ⟨p, List.mem_cons_self, h⟩
    · obtain ⟨x, hx, hc⟩ := joinL_mem (ls := q :: r) h
      exact ⟨x, List.mem_cons_of_mem _ hx, hc⟩
theorem joinL_len : ∀ (ls : List (List Nat)), (TL.joinL [] ls).length = (ls.map List.length).sum
  | [] => rfl
  | [p] => by simp [TL.joinL]
  | p :: q :: r => by
    show (p ++ ([] ++ TL.joinL [] (q :: r))).length = _
    rw [List.nil_append, List.length_append, joinL_len (q :: r)]
    rfl
theorem join_cps (ys : List Str) : (Txt.join "" ys).cps.toList = TL.joinL [] (ys.map fun y => y.cps.toList) := by
  have e := TL.tl_join ("" : Str) ys
  have e2 : Txt.join "" ys = Str.join "" ys := TL.join_eq _ _
  rw [e2]
  exact e
theorem cut_mem {z : Str} {lo hi : Option Int} {c : Nat} (h : c ∈ (cutS z lo hi).cps.toList) : c ∈ z.cps.toList := by
  unfold cutS at h
  exact List.mem_of_mem_drop (List.mem_of_mem_take (by simpa using h))
theorem cut_len {z : Str} {lo hi : Option Int} : (cutS z lo hi).length ≤ z.length := by
  show (((z.cps.toList.drop _).take _).toArray).size ≤ z.cps.size
  simp
  omega
theorem cps_app (a b : Str) : (a ++ b).cps.toList = a.cps.toList ++ b.cps.toList := TL.tl_append a b
end Law

namespace Law
open PySem PySem.Spec PyProof.Rows L2
theorem passS {X : Cx} {CX : CXT} {E : XK} (h : Passes CX X E) : ∀ σ, PassesAt CX X σ E := fun σ pins H s e s' I c => h pins σ H s e s' I c
end Law

namespace Law
open PySem PySem.Spec PyProof.Rows L2 Sup
abbrev sTini : Stmt := inClass (top 5) 0
abbrev sAgr : Stmt := inClass (top 5) 2
abbrev sTnv : Stmt := inClass (top 5) 3
abbrev sTeq : Stmt := inClass (top 5) 4
abbrev sTst : Stmt := inClass (top 5) 5
theorem upd_upd {H : Hp} {a : Addr} {o o' : HO} : upd (upd H a o) a o' = upd H a o' := by
  funext b
  by_cases hb : b = a
  · rw [hb, upd_same, upd_same]
  · rw [upd_ne hb, upd_ne hb, upd_ne hb]
/-- a trial of the class at CT -/
def Tri (CT : Addr) (H : Hp) (x : Addr) (p h : Int) (r : Bool) : Prop := ∃ dx fs, H x = some (.ins CT dx fs) ∧ fs.lookup ("place" : Str) = some (V.int p) ∧ fs.lookup ("height" : Str) = some (V.int h) ∧ fs.lookup ("reached" : Str) = some (V.bl r) ∧ fs.lookup ("agrees" : Str) = none
theorem Tri.same {CT : Addr} {H H' : Hp} {x : Addr} {p h : Int} {r : Bool} (t : Tri CT H x p h r) (s : Same H H') : Tri CT H' x p h r := by
  obtain ⟨dx, fs, h1, h2⟩ := t
  exact ⟨dx, fs, s _ _ h1, h2⟩
structure TriTxt (K : PySem.W.Frag) (mg : Str → Option Value) (CT : Addr) : Prop where
  tri : mg "Trial" = some (.ref CT)
  isi : mg "isinstance" = none
  b_len : mg "len" = none
  cl : Cls K CT
  nP : NoAttr K CT "place"
  nH : NoAttr K CT "height"
  nR : NoAttr K CT "reached"
  ha : PySem.W.findIn K (.ref CT) "__class__" = some (some (.builtin "object.__class__"))
  hn : PySem.W.specialIn K (.builtin "object.__class__") "__get__" = some (some (.builtin "getset_descriptor.__get__"))
  ht : PySem.W.takesIn K (.builtin "object.__class__") = some true
  hm : PySem.W.mroIn K CT (.type "object") = some true
def spTini (CT : Addr) : Sp := fun vs H Q _ => ∃ (x : Addr) (p h : Int) (r : Bool) (dx : Addr), vs = [.ref x, .int p, .int h, .bl r] ∧ H x = some (.ins CT dx []) ∧
  (∀ fs, fs.lookup ("place" : Str) = some (V.int p) → fs.lookup ("height" : Str) = some (V.int h) → fs.lookup ("reached" : Str) = some (V.bl r) → fs.lookup ("agrees" : Str) = none → Q .non (upd H x (.ins CT dx fs)))
theorem mk_tri {CT : Addr} {p h : Int} {r : Bool} {H1 : Hp} {Q : VK} {E : XK} (h2 : ∀ x H2, H1 x = none → Same H1 H2 → Tri CT H2 x p h r → Q (.ref x) H2) :
    Own.MkS CT (spTini CT) E [.int p, .int h, .bl r] H1 Q := ⟨fun x dx hx hdx hne => by
  refine ⟨x, p, h, r, dx, rfl, upd_same, fun fs l1 l2 l3 l4 => ⟨rfl, ?_⟩⟩
  rw [upd_upd]
  refine h2 x _ hx (fun b o e => ?_) ⟨dx, fs, upd_same, l1, l2, l3, l4⟩
  rw [upd_ne (ne_of_none e hx), upd_ne (ne_of_none e hdx)]
  exact e⟩
/-- what the trial says of the heights; none: no such index -/
def agr (xs : List Int) (p h : Int) (r : Bool) : Option Bool := if 0 ≤ p then (xs[p.toNat]?).map (fun z => if r then decide (z ≤ h) else decide (h < z)) else none
def NoPl (CP : Addr) (E : XK) (H : Hp) (p : Int) : Prop := ∀ H' d, Same H H' → H' d = none → E (.ref CP) (some d) (upd H' d (.xd [(("place" : Str), V.int p)]))
def spAgr (K : PySem.W.Frag) (CP CT : Addr) : Sp := fun vs H Q E => ∃ (x l : Addr) (p h : Int) (r : Bool) (xs : List Int), vs = [.ref x, .ref l] ∧ Tri CT H x p h r ∧ SqL K H l (xs.map V.int) ∧ p.natAbs < 2 ^ 1000 ∧
  (∀ b, agr xs p h r = some b → Q (.bl b) H) ∧ (agr xs p h r = none → NoPl CP E H p)
def spTnv (CT : Addr) : Sp := fun vs H Q _ => ∃ (x : Addr) (p h : Int) (r : Bool), vs = [.ref x] ∧ Tri CT H x p h r ∧ ∀ y H', H y = none → Same H H' → Tri CT H' y p h (!r) → Q (.ref y) H'
def spTeq (CT : Addr) : Sp := fun vs H Q _ => ∃ (a : Addr) (p h : Int) (r : Bool) (b : Addr), vs = [.ref a, .ref b] ∧ Tri CT H a p h r ∧
  ((∃ p' h' r', Tri CT H b p' h' r' ∧ Q (.bl (decide (p = p') && (decide (h = h') && decide (r = r')))) H) ∨ (∃ xs, H b = some (.tup xs) ∧ Q (.bl false) H))
def triTxt (p h : Int) (r : Bool) : Str := (((Str.empty ++ Str.ofString (toString p)) ++ (" " : Str)) ++ Str.ofString (toString h)) ++ (if r then (" reached" : Str) else (" missed" : Str))
def spTst (CT : Addr) : Sp := fun vs H Q _ => ∃ (a : Addr) (p h : Int) (r : Bool), vs = [.ref a] ∧ Tri CT H a p h r ∧ p.natAbs < 2 ^ 1000 ∧ h.natAbs < 2 ^ 1000 ∧ Q (.str (triTxt p h r)) H
section
variable {P : Program} {w : World} {K : PySem.W.Frag} {mg : Str → Option Value} {base : Heap} {CP CT : Addr}
theorem kit_ownT : PySem.W.kitOne K (.ref CT) (.ref CT) = some true := by
  unfold PySem.W.kitOne
  rw [if_pos (beq_self_eq_true _)]
theorem scTini : FnScope ["self", "place", "height", "reached"] ["self", "place", "height", "reached"] (defScope sTini) := ⟨rfl, rfl, rfl, by decide +kernel, rfl, by decide +kernel, by decide +kernel⟩
theorem ok_tini {f : Addr} {fd : FuncData} (F : Fun K "__init__" "Trial.__init__" sTini f fd) (T : TriTxt K mg CT) : FnOk P w K mg base CX0 1 f fd ["self", "place", "height", "reached"] (spTini CT) := by
  refine F.ok scTini (fun vs H Q E h => ?_) (fun cdv A outer s H vs Q E hr h => ?_)
  · obtain ⟨x, p, h, r, dx, rfl, _⟩ := h
    rfl
  · obtain ⟨x, p, h, r, dx, rfl, hx, k⟩ := h
    refine ⟨_, (pss_cons (ps_fld (pv 0) (pv 1) rfl)
      (pss_cons (ps_fld (pv 0) (pv 2) rfl)
      (pss_one (ps_fld (pv 0) (pv 3) rfl)))), ?_⟩
    refine ⟨_, rfl, _, rfl, x, CT, dx, _, rfl, hx, T.cl, T.nP, by show 0 < 1000; decide, ?_⟩
    refine ⟨_, rfl, _, rfl, x, CT, dx, _, rfl, upd_same, T.cl, T.nH, by show 1 < 1000; decide, ?_⟩
    refine ⟨_, rfl, _, rfl, x, CT, dx, _, rfl, upd_same, T.cl, T.nR, by show 2 < 1000; decide, ?_⟩
    rw [upd_upd, upd_upd]
    exact k _ rfl rfl rfl rfl
theorem scAgr : FnScope ["self", "heights"] ["self", "heights"] (defScope sAgr) := ⟨rfl, rfl, rfl, by decide +kernel, rfl, by decide +kernel, by decide +kernel⟩
theorem ok_agr {f : Addr} {fd : FuncData} (F : Fun K "agrees" "Trial.agrees" sAgr f fd) (RP : ErrOk P w K mg base "NoPlace" CP "place" okInt) (T : TriTxt K mg CT) : FnOk P w K mg base (L2.CX P w) 4 f fd ["self", "heights"] (spAgr K CP CT) := by
  refine F.okX scAgr (fun vs H Q E h => ?_) (fun cdv A outer s H vs Q E hr h => ?_)
  · obtain ⟨x, l, p, h, r, xs, rfl, _⟩ := h
    rfl
  · obtain ⟨x, l, p, h, r, xs, rfl, ⟨dx, fs, hx, l1, l2, l3, l4⟩, hS, sp, h1, h2⟩ := h
    have hr3 : Room 3 _ := hr
    have hp' : p.natAbs.log2 < 1920 := log_of (by decide) (Nat.lt_of_lt_of_le sp (Nat.pow_le_pow_right (by decide) (by decide)))
    refine ⟨_, (pss_cons (ps_if (pt_not (pt_chain op_le op_lt pe_int (pe_fld (pv 0) rfl) (pe_callB call_len_seq (by rfl) T.b_len PySem.boot_len (pa_cons (pv 1) pa_nil)))) (pss_one (ps_err RP rfl (takes_of rfl rfl rfl rfl) hr3 (pa_cons (pe_fld (pv 0) rfl) pa_nil) rfl)) pss_nil)
      (pss_cons (ps_if (pt_val (pe_fld (pv 0) rfl)) (pss_one (ps_ret (pe_cmpR op_le (pe_ix ix_list (pv 1) (pe_fld (pv 0) rfl) (fun _ _ => rfl)) (pe_fld (pv 0) rfl) (nomark _)))) pss_nil)
      (pss_one (ps_ret (pe_cmpR op_gt (pe_ix ix_list (pv 1) (pe_fld (pv 0) rfl) (fun _ _ => rfl)) (pe_fld (pv 0) rfl) (nomark _)))))), ?_⟩
    refine ⟨_, rfl, x, CT, dx, fs, _, rfl, hx, T.cl, T.nP, l1, _, _, rfl, rfl, _, rfl, ?_⟩
    by_cases c0 : 0 ≤ p
    · refine if_t (decide_eq_true c0) ⟨_, rfl, l, _, rfl, .inl hS, _, _, rfl, rfl, _, rfl, ?_⟩
      rw [List.length_map]
      by_cases c1 : p < xs.length
      · obtain ⟨z, hz⟩ : ∃ z, xs[p.toNat]? = some z := ⟨_, List.getElem?_eq_getElem (by omega)⟩
        have hz' : atI (xs.map V.int) p = some (V.int z) := by
          obtain ⟨n, rfl⟩ := Int.eq_ofNat_of_zero_le c0
          exact atI_nat (by rw [List.getElem?_map]; simp at hz; rw [hz]; rfl)
        have hag : agr xs p h r = some (if r then decide (z ≤ h) else decide (h < z)) := by
          unfold agr
          rw [if_pos c0, hz]
          rfl
        have q := h1 _ hag
        refine if_f (by rw [decide_eq_true c1]; rfl) ?_
        refine ⟨_, rfl, x, CT, dx, fs, _, rfl, hx, T.cl, T.nR, l3, r, rfl, ?_⟩
        cases r with
        | true =>
          refine if_t rfl ?_
          refine ⟨_, rfl, _, rfl, x, CT, dx, fs, _, rfl, hx, T.cl, T.nP, l1, l, _, _, _, rfl, rfl, hS, hz', _, rfl, x, CT, dx, fs, _, rfl, hx, T.cl, T.nH, l2, _, _, rfl, rfl, ?_⟩
          exact q
        | false =>
          refine if_f rfl ?_
          refine ⟨_, rfl, _, rfl, x, CT, dx, fs, _, rfl, hx, T.cl, T.nP, l1, l, _, _, _, rfl, rfl, hS, hz', _, rfl, x, CT, dx, fs, _, rfl, hx, T.cl, T.nH, l2, _, _, rfl, rfl, ?_⟩
          exact q
      · have hn : agr xs p h r = none := by
          unfold agr
          rw [if_pos c0, List.getElem?_eq_none (by omega)]
          rfl
        refine if_t (by rw [decide_eq_false c1]; rfl) ⟨_, rfl, x, CT, dx, fs, _, rfl, hx, T.cl, T.nP, l1, ?_⟩
        exact err_way ⟨p, rfl, hp'⟩ fun d hd => h2 hn _ d (fun _ _ e => e) hd
    · have hn : agr xs p h r = none := by
        unfold agr
        rw [if_neg c0]
      refine if_f (decide_eq_false c0) ⟨_, rfl, ?_⟩
      refine if_t rfl ⟨_, rfl, x, CT, dx, fs, _, rfl, hx, T.cl, T.nP, l1, ?_⟩
      exact err_way ⟨p, rfl, hp'⟩ fun d hd => h2 hn _ d (fun _ _ e => e) hd
theorem scTnv : FnScope ["self"] ["self"] (defScope sTnv) := ⟨rfl, rfl, rfl, by decide +kernel, rfl, by decide +kernel, by decide +kernel⟩
theorem ok_tnv {f fI : Addr} {fd : FuncData} (F : Fun K "__invert__" "Trial.__invert__" sTnv f fd) (MK : Mk K CT fI) (GI : FnR P w K mg base CX0 1 fI (spTini CT)) (T : TriTxt K mg CT) : FnOk P w K mg base CX0 3 f fd ["self"] (spTnv CT) := by
  refine F.ok scTnv (fun vs H Q E h => ?_) (fun cdv A outer s H vs Q E hr h => ?_)
  · obtain ⟨x, p, h, r, rfl, _⟩ := h
    rfl
  · obtain ⟨x, p, h, r, rfl, ⟨dx, fs, hx, l1, l2, l3, l4⟩, k⟩ := h
    refine ⟨_, (pss_one (ps_ret (Own.pe_makeS (E := fun _ => E) MK GI hr rfl T.tri (passS pass0) (pa_cons (pe_fld (pv 0) rfl) (pa_cons (pe_fld (pv 0) rfl) (pa_cons (pe_not (pe_fld (pv 0) rfl)) pa_nil)))))), ?_⟩
    refine ⟨_, rfl, x, CT, dx, fs, _, rfl, hx, T.cl, T.nP, l1, _, rfl, x, CT, dx, fs, _, rfl, hx, T.cl, T.nH, l2, _, rfl, x, CT, dx, fs, _, rfl, hx, T.cl, T.nR, l3, _, rfl, ?_⟩
    exact mk_tri k
theorem scTeq : FnScope ["self", "other"] ["self", "other"] (defScope sTeq) := ⟨rfl, rfl, rfl, by decide +kernel, rfl, by decide +kernel, by decide +kernel⟩
theorem ok_teq {f : Addr} {fd : FuncData} (F : Fun K "__eq__" "Trial.__eq__" sTeq f fd) (T : TriTxt K mg CT) (kI : PySem.W.kitOne K (.type "tuple") (.ref CT) = some false) : FnOk P w K mg base CX0 1 f fd ["self", "other"] (spTeq CT) := by
  refine F.ok scTeq (fun vs H Q E h => ?_) (fun cdv A outer s H vs Q E hr h => ?_)
  · obtain ⟨a, p, h, r, b, rfl, _⟩ := h
    rfl
  · obtain ⟨a, p, h, r, b, rfl, ⟨dx, fs, hx, l1, l2, l3, l4⟩, k⟩ := h
    refine ⟨_, (pss_one (ps_ret (pe_and (pe_callB call_isi (by rfl) T.isi (by decide +kernel) (pa_cons (pv 1) (pa_cons (pe_glob (v := .ref CT) rfl T.tri rfl) pa_nil))) (pe_and (pe_cmpR op_eq (pe_fld (pv 0) rfl) (pe_fld (pv 1) rfl) (nomark _)) (pe_and (pe_cmpR op_eq (pe_fld (pv 0) rfl) (pe_fld (pv 1) rfl) (nomark _)) (pe_one (pe_cmpR op_eq (pe_fld (pv 0) rfl) (pe_fld (pv 1) rfl) (nomark _)))))))), ?_⟩
    rcases k with ⟨p', h', r', ⟨dy, gs, hy, m1, m2, m3, m4⟩, q⟩ | ⟨xs, hb, q⟩
    · refine ⟨_, rfl, V.ref b, V.ref CT, .ref CT, .ref CT, true, rfl, .own _, .base (.ins hy T.cl T.ha T.hn T.ht T.hm), kit_ownT, ?_⟩
      refine ⟨true, rfl, if_t rfl ⟨_, rfl, a, CT, dx, fs, _, rfl, hx, T.cl, T.nP, l1, _, rfl, b, CT, dy, gs, _, rfl, hy, T.cl, T.nP, m1, rfl, ?_⟩⟩
      refine ⟨_, rfl, ?_⟩
      by_cases c1 : p = p'
      · rw [if_pos (by simp [c1])]
        refine ⟨_, rfl, a, CT, dx, fs, _, rfl, hx, T.cl, T.nH, l2, _, rfl, b, CT, dy, gs, _, rfl, hy, T.cl, T.nH, m2, rfl, ?_⟩
        refine ⟨_, rfl, ?_⟩
        by_cases c2 : h = h'
        · rw [if_pos (by simp [c2])]
          refine ⟨_, rfl, a, CT, dx, fs, _, rfl, hx, T.cl, T.nR, l3, _, rfl, b, CT, dy, gs, _, rfl, hy, T.cl, T.nR, m3, rfl, ?_⟩
          have e : decide (V.bl r = V.bl r') = decide (r = r') := by cases r <;> cases r' <;> rfl
          rw [e]
          rw [decide_eq_true c1, decide_eq_true c2] at q
          exact q
        · rw [if_neg (by simp [c2])]
          rw [decide_eq_true c1, decide_eq_false c2] at q
          exact q
      · rw [if_neg (by simp [c1])]
        rw [decide_eq_false c1] at q
        exact q
    · refine ⟨_, rfl, V.ref b, V.ref CT, .type "tuple", .ref CT, false, rfl, .own _, .base (.tup hb), kI, ?_⟩
      exact ⟨_, rfl, if_f rfl q⟩
theorem scTst : FnScope ["self"] ["self"] (defScope sTst) := ⟨rfl, rfl, rfl, by decide +kernel, rfl, by decide +kernel, by decide +kernel⟩
theorem ok_tst {f : Addr} {fd : FuncData} (F : Fun K "__str__" "Trial.__str__" sTst f fd) (T : TriTxt K mg CT) : FnOk P w K mg base CX0 1 f fd ["self"] (spTst CT) := by
  refine F.ok scTst (fun vs H Q E h => ?_) (fun cdv A outer s H vs Q E hr h => ?_)
  · obtain ⟨a, p, h, r, rfl, _⟩ := h
    rfl
  · obtain ⟨a, p, h, r, rfl, ⟨dx, fs, ha, l1, l2, l3, l4⟩, sp, sh, k⟩ := h
    have hp' : p.natAbs.log2 < 1920 := log_of (by decide) (Nat.lt_of_lt_of_le sp (Nat.pow_le_pow_right (by decide) (by decide)))
    have hh' : h.natAbs.log2 < 1920 := log_of (by decide) (Nat.lt_of_lt_of_le sh (Nat.pow_le_pow_right (by decide) (by decide)))
    have zp := int_text_length_le (k := 1920) (by decide) hp'
    have zh := int_text_length_le (k := 1920) (by decide) hh'
    refine ⟨_, (pss_cons (ps_if (pt_val (pe_fld (pv 0) rfl)) (pss_one (ps_ret (pe_joined (.cons (pe_fmt (pe_fld (pv 0) rfl)) (.cons pe_str (.cons (pe_fmt (pe_fld (pv 0) rfl)) (.cons pe_str .nil))))))) pss_nil) (pss_one (ps_ret (pe_joined (.cons (pe_fmt (pe_fld (pv 0) rfl)) (.cons pe_str (.cons (pe_fmt (pe_fld (pv 0) rfl)) (.cons pe_str .nil)))))))), ?_⟩
    have e0 : (Str.empty : Str).length ≤ 10 := by decide +kernel
    have e1 : (" " : Str).length ≤ 10 := by decide +kernel
    have e2 : (" reached" : Str).length ≤ 10 := by decide +kernel
    have e3 : (" missed" : Str).length ≤ 10 := by decide +kernel
    have z1 : (Str.empty ++ Str.ofString (toString p)).length ≤ 1950 := by rw [Str.length_append, PySem.ofString_length]; omega
    have z2 : ((Str.empty ++ Str.ofString (toString p)) ++ (" " : Str)).length ≤ 1960 := by rw [Str.length_append]; omega
    have z3 : (((Str.empty ++ Str.ofString (toString p)) ++ (" " : Str)) ++ Str.ofString (toString h)).length ≤ 3950 := by rw [Str.length_append, PySem.ofString_length]; omega
    have z4 : (triTxt p h r).length ≤ 4010 := by unfold triTxt; rw [Str.length_append]; cases r <;> simp only [if_true, Bool.false_eq_true, if_false] <;> omega
    have big : ∀ n : Nat, n ≤ 4010 → n ≤ sizeLine := fun n h => by rw [sizeLine_eq]; omega
    cases r with
    | true =>
      refine ⟨_, rfl, a, CT, dx, fs, _, rfl, ha, T.cl, T.nR, l3, _, rfl, if_t rfl ?_⟩
      refine ⟨_, rfl, a, CT, dx, fs, _, rfl, ha, T.cl, T.nP, l1, .inr ⟨p, rfl, hp', Str.ofString (toString p), rfl, big _ (by omega), ?_⟩⟩
      refine ⟨_, rfl, big _ (by omega), _, rfl, a, CT, dx, fs, _, rfl, ha, T.cl, T.nH, l2, .inr ⟨h, rfl, hh', Str.ofString (toString h), rfl, big _ (by omega), ?_⟩⟩
      exact ⟨_, rfl, big _ z4, k⟩
    | false =>
      refine ⟨_, rfl, a, CT, dx, fs, _, rfl, ha, T.cl, T.nR, l3, _, rfl, if_f rfl ?_⟩
      refine ⟨_, rfl, a, CT, dx, fs, _, rfl, ha, T.cl, T.nP, l1, .inr ⟨p, rfl, hp', Str.ofString (toString p), rfl, big _ (by omega), ?_⟩⟩
      refine ⟨_, rfl, big _ (by omega), _, rfl, a, CT, dx, fs, _, rfl, ha, T.cl, T.nH, l2, .inr ⟨h, rfl, hh', Str.ofString (toString h), rfl, big _ (by omega), ?_⟩⟩
      exact ⟨_, rfl, big _ z4, k⟩
end
end Law

namespace Law
open PySem PySem.Spec PyProof.Rows L2 Sup ItSeq
abbrev sMis : Stmt := top 6
abbrev sPin : Stmt := top 7
/-- place, height, reached -/
abbrev Tr := Int × Int × Bool
def TrisAt (CT : Addr) (H : Hp) (ts : List Addr) (rows : List Tr) : Prop := ts.length = rows.length ∧ ∀ (i : Nat) (t : Addr) (q : Tr), ts[i]? = some t → rows[i]? = some q → Tri CT H t q.1 q.2.1 q.2.2
theorem TrisAt.same {CT : Addr} {H H' : Hp} {ts : List Addr} {rows : List Tr} (h : TrisAt CT H ts rows) (s : Same H H') : TrisAt CT H' ts rows := ⟨h.1, fun i t q e1 e2 => (h.2 i t q e1 e2).same s⟩
def agr3 (xs : List Int) (q : Tr) : Option Bool := agr xs q.1 q.2.1 q.2.2
def strange (xs : List Int) (rows : List Tr) : Option Int := (rows.find? fun q => (agr3 xs q).isNone).map (·.1)
def wrong (xs : List Int) (rows : List Tr) : List Int := (List.range rows.length).filterMap fun i : Nat => if (rows[i]?.bind (agr3 xs)) = some false then some (i : Int) else none
def spMis (K : PySem.W.Frag) (CP CT : Addr) : Sp := fun vs H Q E => ∃ (a l : Addr) (ts : List Addr) (rows : List Tr) (xs : List Int), vs = [.ref a, .ref l] ∧ Sq K H a (ts.map V.ref) ∧ TrisAt CT H ts rows ∧ SqL K H l (xs.map V.int) ∧ rows.length ≤ 900 ∧ (∀ q ∈ rows, q.1.natAbs < 2 ^ 1000) ∧
  (∀ p, strange xs rows = some p → NoPl CP E H p) ∧ (strange xs rows = none → ∀ D H', Same H H' → H' D = some (.lst ((wrong xs rows).map V.int)) → H D = none → Q (.ref D) H')
def spPin (CT : Addr) : Sp := fun vs H Q _ => ∃ p h : Int, vs = [.int p, .int h] ∧ ∀ (D x y : Addr) (H' : Hp), Same H H' → H' D = some (.lst [.ref x, .ref y]) → Tri CT H' x p h true → Tri CT H' y p (h - 1) false → Q (.ref D) H'
structure MiTxt (K : PySem.W.Frag) (mg : Str → Option Value) (CT : Addr) : Prop where
  tri : mg "Trial" = some (.ref CT)
  b_enum : mg "enumerate" = none
  cl : Cls K CT
section
variable {P : Program} {w : World} {K : PySem.W.Frag} {mg : Str → Option Value} {base : Heap} {CP CT : Addr}
theorem scMis : FnScope ["trials", "heights", "number", "trial"] ["trials", "heights"] (defScope sMis) := ⟨rfl, rfl, rfl, by decide +kernel, rfl, by decide +kernel, by decide +kernel⟩
theorem find_head {α : Type} {f : α → Bool} {ys : List α} {i : Nat} {y : α} (hy : ys[i]? = some y) (hk : ∀ x ∈ ys.take i, f x = false) (h : f y = true) : ys.find? f = some y := by
  induction ys generalizing i with
  | nil => cases hy
  | cons z zs ih =>
    cases i with
    | zero =>
      cases hy
      rw [List.find?_cons_of_pos h]
    | succ i =>
      have hz : f z = false := hk z (by simp)
      rw [List.find?_cons_of_neg (by rw [hz]; decide)]
      exact ih (by simpa using hy) fun x hx => hk x (by simp [hx])
theorem take_succ_mem' {α : Type} {ys : List α} {i : Nat} {x y : α} (hy : ys[i]? = some y) (hx : x ∈ ys.take (i + 1)) : x ∈ ys.take i ∨ x = y := by
  rw [List.take_add_one, hy] at hx
  simpa using hx
theorem ok_mis {f g : Addr} {fd : FuncData} (F : Fun K "misread_numbers" "misread_numbers" sMis f fd) (GA : FnR P w K mg base (L2.CX P w) 4 g (spAgr K CP CT)) (MA : Meth K CT "agrees" g) (T : MiTxt K mg CT) : FnOk P w K mg base (L2.CX P w) 5 f fd ["trials", "heights"] (spMis K CP CT) := by
  refine F.okX scMis (fun vs H Q E h => ?_) (fun cdv A outer s H vs Q E hr h => ?_)
  · obtain ⟨a, l, ts, rows, xs, rfl, _⟩ := h
    rfl
  · obtain ⟨a, l, ts, rows, xs, rfl, hS, hT, hL, h900, hz, h1, h2⟩ := h
    have hr4 : Room 4 _ := hr
    refine ⟨_, (pss_one (ps_ret (CompY.pe_lcX (own := [("number", 2), ("trial", 3)]) (g := gTup K 2 (gCons (gName 2) (gCons (gName 3) gNil))) (tt := fun E => tNot (tB (Own.tMethS CT "agrees" (spAgr K CP CT) (fun _ => E) (tVar 3) (tCons (tVar 1) tNil)))) (te := fun _ => tVar 2) rfl rfl (takes_of rfl rfl rfl rfl)
        { calm := rfl, nd := scMis.nd, it := EnumT.pi_enS (by rfl) T.b_enum (pa_cons (pv 0) pa_nil), ok := blkOk_by (own := [("number", 2), ("trial", 3)]) (N := ["trials", "heights", "number", "trial"]) (sc := defScope sMis) (by decide +kernel), tgt := fun _ _ _ _ _ _ => by exact (pg_tup (n := 2) rfl (pgs_cons (pg_name (i := 2) scMis.nd rfl (Or.inl rfl)) (pgs_cons (pg_name (i := 3) scMis.nd rfl (Or.inl rfl)) pgs_nil))),
          tst := fun _ _ _ _ _ _ E hp => pts_one (pt_not (pt_val (Own.pe_methW (E := fun _ => E) (pv 3) T.cl MA GA hr4 hp (pa_cons (pv 1) pa_nil)))), elm := fun _ _ _ _ _ _ E hp => (pv 2), fold := by intro _; rfl }))), ?_⟩
    refine ⟨_, rfl, a, ts.map V.ref, rfl, hS, fun J wk D hD => ?_⟩
    refine lc_it wk (fun i H' => LcP D H (fun i : Nat => if (rows[i]?.bind (agr3 xs)) = some false then some (V.int (i : Nat)) else none) i H' ∧ ∀ q ∈ rows.take i, (agr3 xs q).isNone = false) ⟨LcP.start hD, by simp⟩ (fun i H' _ p => p.1.2) ?_ ?_
    · rintro i x H' H'' hi ⟨p, hk⟩ ⟨t, y, z, rfl, ht, rfl, ey, ez⟩
      rw [List.length_map] at hi
      obtain ⟨u, hu⟩ : ∃ u, ts[i]? = some u := ⟨_, List.getElem?_eq_getElem hi⟩
      obtain ⟨q, hq⟩ : ∃ q, rows[i]? = some q := ⟨_, List.getElem?_eq_getElem (by rw [← hT.1]; exact hi)⟩
      have ez : (ts.map V.ref)[i]? = some z := ez
      have ey : some (V.int (i : Nat)) = some y := ey
      rw [List.getElem?_map, hu] at ez
      cases ez
      cases ey
      have st := same_new (o := .tup [V.int (i : Nat), V.ref u]) ht
      have S := same_tr p.2 st
      have hX := (hT.2 i u q hu hq).same S
      obtain ⟨dx, fs, hx, l1, l2, l3, l4⟩ := id hX
      have hiz : i < 900 := by
        have := hT.1
        omega
      refine ⟨t, _, rfl, SqT.of upd_same, rfl, _, _, rfl, _, _, rfl, rfl, rfl, _, rfl, u, dx, fs, rfl, hx, l4, _, rfl, u, l, q.1, q.2.1, q.2.2, xs, rfl, hX, sqL_same hL S, hz q (List.mem_of_getElem? hq), fun b hb => ?_, fun hn => ?_⟩
      · have eb : rows[i]?.bind (agr3 xs) = some b := by
          rw [hq]
          exact hb
        have hk' : ∀ x ∈ rows.take (i + 1), (agr3 xs x).isNone = false := fun x hx => by
          rcases take_succ_mem' hq hx with hx | rfl
          · exact hk x hx
          · show (agr xs x.1 x.2.1 x.2.2).isNone = false
            rw [hb]
            rfl
        cases b with
        | true => exact ⟨true, rfl, if_f rfl ⟨p.skip st (by rw [eb]; rfl), hk'⟩⟩
        | false =>
          refine ⟨false, rfl, if_t rfl ⟨_, rfl, ?_⟩⟩
          obtain ⟨acc, a1, a2, a3⟩ := p.push hD st (y := V.int (i : Nat)) (by rw [eb]; rfl) (by omega)
          exact ⟨acc, a1, a2, a3, hk'⟩
      · refine fun H4 d S4 hd => h1 q.1 ?_ _ d (same_tr S S4) hd
        unfold strange
        rw [find_head hq hk (by unfold agr3; rw [hn]; rfl)]
        rfl
    · rintro H' ⟨⟨g1, s1⟩, hk⟩
      rw [List.length_map, hT.1] at g1 hk
      rw [List.take_length] at hk
      have hst : strange xs rows = none := by
        unfold strange
        rw [List.find?_eq_none.mpr fun q hq => by rw [hk q hq]; decide]
        rfl
      refine h2 hst D H' s1 ?_ hD
      rw [g1]
      unfold wrong
      rw [List.map_filterMap]
      refine congrArg HO.lst (congrArg (fun f => List.filterMap f _) ?_) |> congrArg some
      funext i
      split <;> rfl
theorem scPin : FnScope ["place", "height"] ["place", "height"] (defScope sPin) := ⟨rfl, rfl, rfl, by decide +kernel, rfl, by decide +kernel, by decide +kernel⟩
theorem ok_pin {f fI : Addr} {fd : FuncData} (F : Fun K "pinned" "pinned" sPin f fd) (MK : Mk K CT fI) (GI : FnR P w K mg base CX0 1 fI (spTini CT)) (T : MiTxt K mg CT) : FnOk P w K mg base CX0 3 f fd ["place", "height"] (spPin CT) := by
  refine F.ok scPin (fun vs H Q E h => ?_) (fun cdv A outer s H vs Q E hr h => ?_)
  · obtain ⟨p, h, rfl, _⟩ := h
    rfl
  · obtain ⟨p, h, rfl, k⟩ := h
    have hr2 : Room 2 _ := hr
    refine ⟨_, (pss_one (ps_ret (pe_lst (pa_cons (Own.pe_makeS (E := fun _ => E0) MK GI hr2 rfl T.tri (passS pass0) (pa_cons (pv 0) (pa_cons (pv 1) (pa_cons pe_bl pa_nil)))) (pa_cons (Own.pe_makeS (E := fun _ => E0) MK GI hr2 rfl T.tri (passS pass0) (pa_cons (pv 0) (pa_cons (pe_op op_sub (pv 1) pe_int) (pa_cons pe_bl pa_nil)))) pa_nil))))), ?_⟩
    refine ⟨_, rfl, _, rfl, mk_tri fun x H1 hx S1 hX => ?_⟩
    refine ⟨_, rfl, _, rfl, _, _, rfl, rfl, mk_tri fun y H2 hy S2 hY => ?_⟩
    refine ⟨by show 2 ≤ sizeLine; decide, fun D hD => ?_⟩
    have S3 := same_new (o := .lst [V.ref x, V.ref y]) hD
    exact k D x y _ (same_tr S1 (same_tr S2 S3)) upd_same ((hX.same S2).same S3) (hY.same S3)
end
end Law

namespace Law
open PySem PySem.Spec PyProof.Rows L2 Sup ItSeq
abbrev sNms : Stmt := top 11
abbrev sTrs : Stmt := top 12
abbrev sTri : Stmt := top 13
abbrev sOut : Stmt := top 14
abbrev sRws : Stmt := top 15
def rowV (q : Tr) : List V := [.int q.1, .int q.2.1, .bl q.2.2]
def RowsT (H : Hp) (ts : List Addr) (rows : List Tr) : Prop := ts.length = rows.length ∧ ∀ (i : Nat) (t : Addr) (q : Tr), ts[i]? = some t → rows[i]? = some q → H t = some (.tup (rowV q))
theorem RowsT.same {H H' : Hp} {ts : List Addr} {rows : List Tr} (h : RowsT H ts rows) (s : Same H H') : RowsT H' ts rows := ⟨h.1, fun i t q e1 e2 => s _ _ (h.2 i t q e1 e2)⟩
theorem RowsT.sameB {H H' : Hp} {b l : Addr} {ts : List Addr} {rows : List Tr} (h : RowsT H ts rows) (B : Box H b l) (s : SameB b H H') : RowsT H' ts rows := ⟨h.1, fun i t q e1 e2 => s _ _ (B.neT (h.2 i t q e1 e2)) (h.2 i t q e1 e2)⟩
theorem RowsT.keep {H H' : Hp} {ts : List Addr} {rows : List Tr} (h : RowsT H ts rows) (s : ∀ c xs, H c = some (.tup xs) → H' c = some (.tup xs)) : RowsT H' ts rows := ⟨h.1, fun i t q e1 e2 => s _ _ (h.2 i t q e1 e2)⟩
theorem RowsT.snoc {H : Hp} {ts : List Addr} {rows : List Tr} {t : Addr} {q : Tr} (h : RowsT H ts rows) (e : H t = some (.tup (rowV q))) : RowsT H (ts ++ [t]) (rows ++ [q]) := by
  refine ⟨by rw [List.length_append, List.length_append, h.1]; rfl, fun i u z e1 e2 => ?_⟩
  by_cases c : i < ts.length
  · rw [List.getElem?_append_left c] at e1
    rw [List.getElem?_append_left (by rw [← h.1]; exact c)] at e2
    exact h.2 i u z e1 e2
  · rw [List.getElem?_append_right (by omega)] at e1
    rw [List.getElem?_append_right (by rw [← h.1]; omega), ← h.1] at e2
    have i0 : i - ts.length = 0 := by
      have := (List.getElem?_eq_some_iff.mp e1).1
      simp at this
      omega
    rw [i0] at e1 e2
    cases e1
    cases e2
    exact e
theorem TrisAt.keep {CT : Addr} {H H' : Hp} {ts : List Addr} {rows : List Tr} (h : TrisAt CT H ts rows) (s : ∀ c C dx fs, H c = some (.ins C dx fs) → H' c = some (.ins C dx fs)) : TrisAt CT H' ts rows := ⟨h.1, fun i t q e1 e2 => by
  obtain ⟨dx, fs, h1, h2⟩ := h.2 i t q e1 e2
  exact ⟨dx, fs, s _ _ _ _ h1, h2⟩⟩
theorem Box.neNs {H : Hp} {b l c : Addr} {xs : List Int} (B : Box H b l) (h : H c = some (.lst (xs.map V.int))) : c ≠ b := fun z => by
  obtain ⟨ns, i, q, s, h1, _⟩ := B
  rw [z, h1] at h
  have e := HO.lst.inj (Option.some.inj h)
  cases xs with
  | nil => cases e
  | cons n ns => cases e
theorem Box.neRs {H : Hp} {b l c : Addr} {xs : List Addr} (B : Box H b l) (h : H c = some (.lst (xs.map V.ref))) : c ≠ b := fun z => by
  obtain ⟨ns, i, q, s, h1, _⟩ := B
  rw [z, h1] at h
  have e := HO.lst.inj (Option.some.inj h)
  cases xs with
  | nil => cases e
  | cons n ns =>
    cases ns with
    | nil => cases e
    | cons m ms => cases e
def spNms (K : PySem.W.Frag) : Sp := fun vs H Q _ => ∃ (a b : Addr) (ns : List Int), vs = [.ref a, .ref b] ∧ H a = some (.lst (ns.map V.int)) ∧ H b = some (.lst (ns.map V.int)) ∧ ns.length ≤ 900 ∧ Q (.bl true) H
def Near (n : Nat) (q : Tr) : Prop := 0 ≤ q.1 ∧ q.1 < n ∧ q.2.1.natAbs ≤ 10 ^ 31
def spTrs : Sp := fun vs H Q _ => ∃ (b l c : Addr) (xs : List Int) (n tall : Int), vs = [.ref b, .ref c, .int n, .int tall] ∧ Box H b l ∧ H c = some (.lst (xs.map V.int)) ∧ 0 < xs.length ∧ xs.length ≤ 24 ∧ (∀ x ∈ xs, x.natAbs ≤ 10 ^ 30) ∧ 0 ≤ n ∧ n ≤ 60 ∧ 0 ≤ tall ∧ tall ≤ 10 ^ 20 ∧
  ∀ (D : Addr) (ts : List Addr) (rows : List Tr) (H' : Hp), H D = none → H' D = some (.lst (ts.map V.ref)) → RowsT H' ts rows → rows.length = n.toNat → (∀ q ∈ rows, Near xs.length q) → Box H' b l → SameB b H H' → Q (.ref D) H'
def spTri (K : PySem.W.Frag) (CT : Addr) : Sp := fun vs H Q _ => ∃ (a : Addr) (ts : List Addr) (rows : List Tr), vs = [.ref a] ∧ H a = some (.lst (ts.map V.ref)) ∧ RowsT H ts rows ∧ rows.length ≤ 900 ∧
  ∀ (D : Addr) (us : List Addr) (H' : Hp), H D = none → H' D = some (.lst (us.map V.ref)) → TrisAt CT H' us rows → Same H H' → Q (.ref D) H'
def spRws (CT : Addr) : Sp := fun vs H Q _ => ∃ (a : Addr) (us : List Addr) (rows : List Tr), vs = [.ref a] ∧ H a = some (.lst (us.map V.ref)) ∧ TrisAt CT H us rows ∧ rows.length ≤ 900 ∧
  ∀ (D : Addr) (ts : List Addr) (H' : Hp), H' D = some (.lst (ts.map V.ref)) → RowsT H' ts rows → Same H H' → Q (.ref D) H'
def spOut (K : PySem.W.Frag) (CT : Addr) : Sp := fun vs H Q _ => ∃ (a l : Addr) (us : List Addr) (rows : List Tr) (xs : List Int), vs = [.ref a, .ref l] ∧ H a = some (.lst (us.map V.ref)) ∧ TrisAt CT H us rows ∧ H l = some (.lst (xs.map V.int)) ∧ rows.length ≤ 900 ∧ (∀ q ∈ rows, q.1.natAbs < 2 ^ 1000) ∧
  (∀ p, strange xs rows = some p → ∀ t H', Same H H' → H' t = some (.tup [.str "NoPlace", .int p]) → Q (.ref t) H') ∧ (strange xs rows = none → ∀ D H', Same H H' → H' D = some (.lst ((wrong xs rows).map V.int)) → Q (.ref D) H')
structure LTxt (mg : Str → Option Value) (CT fT fM : Addr) : Prop where
  tri : mg "Trial" = some (.ref CT)
  take : mg "_law_take" = some (.ref fT)
  mis : mg "misread_numbers" = some (.ref fM)
  b_isinstance : mg "isinstance" = none
  b_list : mg "list" = none
  b_int : mg "int" = none
  b_bool : mg "bool" = none
  b_len : mg "len" = none
  b_range : mg "range" = none
section
variable {P : Program} {w : World} {K : PySem.W.Frag} {mg : Str → Option Value} {base : Heap} {CP CT fT fM : Addr}
theorem scNms : FnScope ["_law_row", "_law_due", "_law_k"] ["_law_row", "_law_due"] (defScope sNms) := ⟨rfl, rfl, rfl, by decide +kernel, rfl, by decide +kernel, by decide +kernel⟩
theorem ok_nms {f : Addr} {fd : FuncData} (F : Fun K "_law_numbers" "_law_numbers" sNms f fd) (T : LTxt mg CT fT fM) : FnOk P w K mg base CX0 1 f fd ["_law_row", "_law_due"] (spNms K) := by
  refine F.ok scNms (fun vs H Q E h => ?_) (fun cdv A outer s H vs Q E hr h => ?_)
  · obtain ⟨a, b, ns, rfl, _⟩ := h
    rfl
  · obtain ⟨a, b, ns, rfl, ha, hb, h900, k⟩ := h
    refine ⟨_, (pss_cons (ps_if (PW.pt (pw_or (pt_not (pt_val (pe_callB call_isi (by rfl) T.b_isinstance (by decide +kernel) (pa_cons (pv 0) (pa_cons (pe_bltn (v := .ty "list") (by rfl) T.b_list (by decide +kernel) rfl) pa_nil))))) (pw_or1 (pt_cmpR op_ne (pe_callB call_len_seq (by rfl) T.b_len PySem.boot_len (pa_cons (pv 0) pa_nil)) (pe_callB call_len_seq (by rfl) T.b_len PySem.boot_len (pa_cons (pv 1) pa_nil)) (nomark _))))) (pss_one (ps_ret pe_bl)) pss_nil)
      (pss_cons (ps_for PassesOwn.never rfl (pi_range1 (by rfl) T.b_range (pa_cons (pe_callB call_len_seq (by rfl) T.b_len PySem.boot_len (pa_cons (pv 1) pa_nil)) pa_nil)) (pg_name (i := 2) scNms.nd rfl (Or.inl rfl)) (pss_one (ps_if (PW.pt (pw_or (pt_not (pt_val (pe_callB call_isi (by rfl) T.b_isinstance (by decide +kernel) (pa_cons (pe_ix ix_list (pv 0) (pv 2) (fun _ _ => rfl)) (pa_cons (pe_bltn (v := .ty "int") (by rfl) T.b_int (by decide +kernel) rfl) pa_nil))))) (pw_or (pt_val (pe_callB call_isi (by rfl) T.b_isinstance (by decide +kernel) (pa_cons (pe_ix ix_list (pv 0) (pv 2) (fun _ _ => rfl)) (pa_cons (pe_bltn (v := .ty "bool") (by rfl) T.b_bool (by decide +kernel) rfl) pa_nil)))) (pw_or1 (pt_cmpR op_ne (pe_ix ix_list (pv 0) (pv 2) (fun _ _ => rfl)) (pe_ix ix_list (pv 1) (pv 2) (fun _ _ => rfl)) (nomark _)))))) (pss_one (ps_ret pe_bl)) pss_nil)))
      (pss_one (ps_ret pe_bl)))), ?_⟩
    refine ⟨_, rfl, V.ref a, .ty "list", .type "list", .type "list", true, rfl, .ty _, .base (.lst ha), by rfl, _, rfl, if_f rfl ?_⟩
    refine ⟨_, rfl, a, _, rfl, .inl (SqL.of ha), _, rfl, b, _, rfl, .inl (SqL.of hb), rfl, _, rfl, if_f (by simp) ?_⟩
    refine ⟨_, rfl, b, _, rfl, .inl (SqL.of hb), _, rfl, by rw [List.length_map]; omega, by rw [List.length_map]; omega, for_range (lo := 0) (n := (((ns.map V.int).length : Nat) : Int).toNat) (fun i σ' H' => ∃ v, σ' = [some (.ref a), some (.ref b), v] ∧ H' = H) ⟨none, rfl, rfl⟩ ?_ ?_⟩
    · rintro i σ' H' hi ⟨v, rfl, rfl⟩
      have hi : i < ns.length := by simpa using hi
      obtain ⟨z, hz⟩ : ∃ z, ns[i]? = some z := ⟨_, List.getElem?_eq_getElem hi⟩
      have hz' : atI (ns.map V.int) (0 + (i : Int)) = some (V.int z) := by
        rw [Int.zero_add]
        exact atI_nat (by rw [List.getElem?_map, hz]; rfl)
      refine ⟨_, rfl, _, rfl, a, _, _, _, rfl, rfl, SqL.of ha, hz', V.int z, .ty "int", .type "int", .type "int", true, rfl, .ty _, .base (.int z), by rfl, _, rfl, if_f rfl ?_⟩
      refine ⟨_, rfl, _, rfl, a, _, _, _, rfl, rfl, SqL.of ha, hz', V.int z, .ty "bool", .type "int", .type "bool", false, rfl, .ty _, .base (.int z), by rfl, _, rfl, if_f rfl ?_⟩
      refine ⟨_, rfl, _, rfl, a, _, _, _, rfl, rfl, SqL.of ha, hz', _, rfl, _, rfl, b, _, _, _, rfl, rfl, SqL.of hb, hz', rfl, _, rfl, if_f (by simp) ?_⟩
      exact ⟨_, rfl, rfl⟩
    · rintro σ' H' ⟨v, rfl, rfl⟩
      exact k
theorem scTrs : FnScope ["_law_box_here", "_law_truth", "_law_count", "_law_tall", "_law_rows_here", "_law_k", "_law_place", "_law_height", "_law_wide", "_law_reached"] ["_law_box_here", "_law_truth", "_law_count", "_law_tall"] (defScope sTrs) := ⟨rfl, rfl, rfl, by decide +kernel, rfl, by decide +kernel, by decide +kernel⟩
theorem ok_trs {f : Addr} {fd fdT : FuncData} (F : Fun K "_law_tries" "_law_tries" sTrs f fd) (GT : FnOk P w K mg base CX0 1 fT fdT ["_law_box_here", "_law_size"] spTake) (FT : Fun K "_law_take" "_law_take" sTake fT fdT) (bT : Binds K fdT ["_law_box_here", "_law_size"] []) (T : LTxt mg CT fT fM) :
    FnOk P w K mg base CX0 2 f fd ["_law_box_here", "_law_truth", "_law_count", "_law_tall"] spTrs := by
  refine F.ok scTrs (fun vs H Q E h => ?_) (fun cdv A outer s H vs Q E hr h => ?_)
  · obtain ⟨b, l, c, xs, n, tall, rfl, _⟩ := h
    rfl
  · obtain ⟨b, l, c, xs, n, tall, rfl, B, hc, x0, x24, hxs, n0, n60, t0, t20, k⟩ := h
    have hr1 : Room 1 _ := hr
    refine ⟨_, (pss_cons (ps_set (i := 4) scTrs.nd rfl (Or.inl rfl) (pe_lst pa_nil))
      (pss_cons (ps_for PassesOwn.never rfl (pi_range1 (by rfl) T.b_range (pa_cons (pv 2) pa_nil)) (pg_name (i := 5) scTrs.nd rfl (Or.inl rfl)) (pss_cons (ps_set (i := 6) scTrs.nd rfl (Or.inl rfl) (pe_call GT hr1 rfl T.take FT.kp bT .nil pass0 (pa_cons (pv 0) (pa_cons (pe_callB call_len_seq (by rfl) T.b_len PySem.boot_len (pa_cons (pv 1) pa_nil)) pa_nil))))
      (pss_cons (ps_set (i := 7) scTrs.nd rfl (Or.inl rfl) (pe_op op_sub (pe_op op_add (pe_ix ix_list (pv 1) (pv 6) (fun _ _ => rfl)) (pe_call GT hr1 rfl T.take FT.kp bT .nil pass0 (pa_cons (pv 0) (pa_cons pe_int pa_nil)))) pe_int))
      (pss_cons (ps_set (i := 8) scTrs.nd rfl (Or.inl rfl) (pe_op op_sub (pe_call GT hr1 rfl T.take FT.kp bT .nil pass0 (pa_cons (pv 0) (pa_cons (pe_op op_add (pv 3) pe_int) pa_nil))) pe_int))
      (C8.pss_cut (ps_if (pt_cmpR op_eq (pe_call GT hr1 rfl T.take FT.kp bT .nil pass0 (pa_cons (pv 0) (pa_cons pe_int pa_nil))) pe_int (nomark _)) (pss_one (ps_set (i := 7) scTrs.nd rfl (Or.inl rfl) (pv 8))) pss_nil)
      (pss_cons (ps_set (i := 9) scTrs.nd rfl (Or.inl rfl) (pe_cmpR op_le (pe_ix ix_list (pv 1) (pv 6) (fun _ _ => rfl)) (pv 7) (nomark _)))
      (C8.pss_cut (ps_if (pt_cmpR op_eq (pe_call GT hr1 rfl T.take FT.kp bT .nil pass0 (pa_cons (pv 0) (pa_cons pe_int pa_nil))) pe_int (nomark _)) (pss_one (ps_set (i := 9) scTrs.nd rfl (Or.inl rfl) (pe_not (pv 9)))) pss_nil)
      (pss_one (ps_expr (pe_bm PySem.F.plainAttrs_list PySem.F.slot_list_append PySem.F.type_list_append mt_append (pv 4) (pa_cons (pe_tup (pa_cons (pv 6) (pa_cons (pv 7) (pa_cons (pv 9) pa_nil)))) pa_nil)))))))))))
      (pss_one (ps_ret (pv 4))))), ?_⟩
    refine ⟨by show 0 ≤ sizeLine; decide, fun D hD => ?_⟩
    have B1 := B.at (o := .lst []) (B.free hD)
    have nDb := (B.free hD).1
    have nDl := (B.free hD).2
    have nDc : D ≠ c := fun z => by rw [z, hc] at hD; cases hD
    refine ⟨_, rfl, n, rfl, by omega, by omega, for_range (lo := 0) (n := n.toNat) (fun i σ' H' => ∃ (v5 v6 v7 v8 v9 : Option V) (ts : List Addr) (rows : List Tr), σ' = [some (.ref b), some (.ref c), some (.int n), some (.int tall), some (.ref D), v5, v6, v7, v8, v9] ∧
      H' D = some (.lst (ts.map V.ref)) ∧ RowsT H' ts rows ∧ rows.length = i ∧ (∀ q ∈ rows, Near xs.length q) ∧ Box H' b l ∧ SameB b H H')
      ⟨none, none, none, none, none, [], [], rfl, upd_same, ⟨rfl, fun i t q e => nomatch e⟩, rfl, (fun _ h => nomatch h), B1, fun x o nx e => same_new hD _ _ e⟩ ?_ ?_⟩
    · rintro i σ' H' hi ⟨v5, v6, v7, v8, v9, ts, rows, rfl, eD, hT, rl, hN, B2, s2⟩
      have ncb := B.neNs hc
      have hc2 := s2 _ _ ncb hc
      refine ⟨_, rfl, _, rfl, c, _, rfl, .inl (SqL.of hc2), b, l, _, rfl, B2, by rw [List.length_map]; omega, size_fit (by rw [List.length_map]; omega) (by rw [List.length_map]; omega), fun p H3 p0 p1 B3 k3 => ?_⟩
      rw [List.length_map] at p1
      have s3 := s2.trans (SameB.of k3)
      have hc3 := s3 _ _ ncb hc
      obtain ⟨z, hz⟩ : ∃ z, xs[p.toNat]? = some z := ⟨_, List.getElem?_eq_getElem (by omega)⟩
      have hz' : atI (xs.map V.int) p = some (V.int z) := by
        obtain ⟨m, rfl⟩ := Int.eq_ofNat_of_zero_le p0
        exact atI_nat (by rw [List.getElem?_map]; simp at hz; rw [hz]; rfl)
      have hzb := hxs z (List.mem_of_getElem? hz)
      refine ⟨_, rfl, _, rfl, c, _, _, _, rfl, rfl, SqL.of hc3, hz', _, rfl, b, l, _, rfl, B3, by decide, by decide, fun g H4 g0 g1 B4 k4 => ⟨_, _, rfl, rfl, _, _, rfl, rfl, ?_⟩⟩
      have s4 := s3.trans (SameB.of k4)
      refine ⟨_, rfl, _, rfl, _, _, rfl, rfl, b, l, _, rfl, B4, by omega, size_fit (by omega) (by omega), fun wd H5 w0 w1 B5 k5 => ⟨_, _, rfl, rfl, ?_⟩⟩
      have s5 := s4.trans (SameB.of k5)
      have eD5 := (k5 D (Ne.symm nDb)).trans ((k4 D (Ne.symm nDb)).trans ((k3 D (Ne.symm nDb)).trans eD))
      have hT5 := ((hT.sameB B2 (SameB.of k3)).sameB B3 (SameB.of k4)).sameB B4 (SameB.of k5)
      refine ⟨fun σ'' H'' => ∃ hh : Int, σ'' = [some (.ref b), some (.ref c), some (.int n), some (.int tall), some (.ref D), some (.int (0 + (i : Int))), some (.int p), some (.int hh), some (.int (wd - 1)), v9] ∧ hh.natAbs ≤ 10 ^ 31 ∧
        H'' D = some (.lst (ts.map V.ref)) ∧ RowsT H'' ts rows ∧ Box H'' b l ∧ SameB b H H'', ?_, ?_⟩
      · refine ⟨_, rfl, b, l, _, rfl, B5, by decide, by decide, fun y H6 y0 y1 B6 k6 => ⟨rfl, _, rfl, ?_⟩⟩
        have s6 := s5.trans (SameB.of k6)
        have eD6 := (k6 D (Ne.symm nDb)).trans eD5
        have hT6 := hT5.sameB B5 (SameB.of k6)
        refine ite2 (fun _ => ?_) fun _ => ?_
        · exact ⟨_, rfl, wd - 1, rfl, by omega, eD6, hT6, B6, s6⟩
        · exact ⟨z + g - 2, rfl, by omega, eD6, hT6, B6, s6⟩
      rintro σ'' H6 ⟨hh, rfl, hh31, eD6, hT6, B6, s6⟩
      have hc6 := s6 _ _ ncb hc
      refine ⟨_, rfl, _, rfl, c, _, _, _, rfl, rfl, SqL.of hc6, hz', _, rfl, _, _, rfl, rfl, ?_⟩
      refine ⟨fun σ'' H'' => ∃ r : Bool, σ'' = [some (.ref b), some (.ref c), some (.int n), some (.int tall), some (.ref D), some (.int (0 + (i : Int))), some (.int p), some (.int hh), some (.int (wd - 1)), some (.bl r)] ∧
        H'' D = some (.lst (ts.map V.ref)) ∧ RowsT H'' ts rows ∧ Box H'' b l ∧ SameB b H H'', ?_, ?_⟩
      · refine ⟨_, rfl, b, l, _, rfl, B6, by decide, by decide, fun y H7 y0 y1 B7 k7 => ⟨rfl, _, rfl, ?_⟩⟩
        have s7 := s6.trans (SameB.of k7)
        have eD7 := (k7 D (Ne.symm nDb)).trans eD6
        have hT7 := hT6.sameB B6 (SameB.of k7)
        refine ite2 (fun _ => ?_) fun _ => ?_
        · exact ⟨_, rfl, _, rfl, _, rfl, eD7, hT7, B7, s7⟩
        · exact ⟨_, rfl, eD7, hT7, B7, s7⟩
      rintro σ'' H7 ⟨r, rfl, eD7, hT7, B7, s7⟩
      refine ⟨_, rfl, .inl ⟨rfl, _, SqL.of eD7⟩, _, rfl, _, rfl, _, rfl, by show 3 ≤ sizeLine; decide, fun t ht => ?_⟩
      have S8 := same_new (o := .tup [V.int p, V.int hh, V.bl r]) ht
      have e8 : upd H7 t (.tup [V.int p, V.int hh, V.bl r]) t = some (.tup (rowV (p, hh, r))) := upd_same
      have rlt := hT.1
      refine ⟨D, _, _, rfl, rfl, S8 _ _ eD7, small1000 (by rw [List.length_map]; omega), ?_⟩
      have kt : ∀ x ys, upd H7 t (.tup [V.int p, V.int hh, V.bl r]) x = some (.tup ys) → upd (upd H7 t (.tup [V.int p, V.int hh, V.bl r])) D (.lst (ts.map V.ref ++ [V.ref t])) x = some (.tup ys) := fun x ys e => by
        rw [upd_ne (fun z => by rw [z, S8 _ _ eD7] at e; cases e)]
        exact e
      refine ⟨_, _, _, _, _, ts ++ [t], rows ++ [(p, hh, r)], rfl, ?_, ((hT7.same S8).snoc e8).keep kt, by rw [List.length_append, rl]; rfl, fun q hq => ?_, ?_, ?_⟩
      · rw [upd_same, List.map_append]
        rfl
      · rcases List.mem_append.mp hq with hq | hq
        · exact hN q hq
        · rw [List.mem_singleton] at hq
          subst hq
          exact ⟨p0, p1, hh31⟩
      · exact (B7.same S8).at ⟨nDb, nDl⟩
      · intro x o nx e
        rw [upd_ne (ne_of_none e hD)]
        exact S8 _ _ (s7 x o nx e)
    · rintro σ' H' ⟨v5, v6, v7, v8, v9, ts, rows, rfl, eD, hT, rl, hN, B2, s2⟩
      exact ⟨_, rfl, k D ts rows H' hD eD hT rl hN B2 s2⟩
theorem scTri : FnScope ["_law_rows_here", "_law_row"] ["_law_rows_here"] (defScope sTri) := ⟨rfl, rfl, rfl, by decide +kernel, rfl, by decide +kernel, by decide +kernel⟩
theorem ok_tri {f fI : Addr} {fd : FuncData} (F : Fun K "_law_trials" "_law_trials" sTri f fd) (MK : Mk K CT fI) (GI : FnR P w K mg base CX0 1 fI (spTini CT)) (T : LTxt mg CT fT fM) : FnOk P w K mg base CX0 3 f fd ["_law_rows_here"] (spTri K CT) := by
  refine F.ok scTri (fun vs H Q E h => ?_) (fun cdv A outer s H vs Q E hr h => ?_)
  · obtain ⟨a, ts, rows, rfl, _⟩ := h
    rfl
  · obtain ⟨a, ts, rows, rfl, ha, hT, h900, k⟩ := h
    have hr2 : Room 2 _ := hr
    refine ⟨_, (pss_one (ps_ret (pe_lc (own := [("_law_row", 1)]) (g := gName 1) (tt := tYes) (by rfl) scTri.nd (pi_list (pv 0)) (blkOk_by (own := [("_law_row", 1)]) (N := ["_law_rows_here", "_law_row"]) (sc := defScope sTri) (by decide +kernel)) (fun _ _ _ _ _ => pg_name (i := 1) scTri.nd rfl (Or.inl rfl)) (fun _ _ _ _ _ => pts_nil)
        (fun _ _ _ _ _ => (Own.pe_makeS (E := fun _ => E0) MK GI hr2 rfl T.tri (passS pass0) (pa_cons (pe_ix (r := rIxT K) ix_tup (pv 1) pe_int (fun _ _ => rfl)) (pa_cons (pe_ix (r := rIxT K) ix_tup (pv 1) pe_int (fun _ _ => rfl)) (pa_cons (pe_ix (r := rIxT K) ix_tup (pv 1) pe_int (fun _ _ => rfl)) pa_nil)))))))), ?_⟩
    refine ⟨_, rfl, a, rfl, ⟨_, SqL.of ha⟩, fun D hD => ?_⟩
    have nD : D ≠ a := fun z => by rw [z, ha] at hD; cases hD
    refine lc_list (K := K) (a := a) (xs := ts.map V.ref) (fun i H' => ∃ us : List Addr, H' D = some (.lst (us.map V.ref)) ∧ us.length = i ∧ (∀ (j : Nat) (u : Addr) (q : Tr), us[j]? = some u → rows[j]? = some q → Tri CT H' u q.1 q.2.1 q.2.2) ∧ Same H H')
      ⟨[], upd_same, rfl, (fun _ _ _ h => nomatch h), same_new hD⟩ (fun i H' _ p => by obtain ⟨_, _, _, _, S⟩ := p; exact SqL.of (S _ _ ha)) ?_ ?_
    · rintro i y H' hi ⟨us, eD, ul, hU, S⟩
      rw [List.getElem?_map] at hi
      obtain ⟨t, ht, rfl⟩ : ∃ t, ts[i]? = some t ∧ y = V.ref t := by
        cases e : ts[i]? with
        | none => rw [e] at hi; cases hi
        | some t => rw [e] at hi; exact ⟨t, rfl, (Option.some.inj hi).symm⟩
      have hit := (List.getElem?_eq_some_iff.mp ht).1
      obtain ⟨q, hq⟩ : ∃ q, rows[i]? = some q := ⟨_, List.getElem?_eq_getElem (by rw [← hT.1]; exact hit)⟩
      have et := S _ _ (hT.2 i t q ht hq)
      refine ⟨rfl, _, rfl, t, _, _, _, rfl, rfl, SqT.of et, rfl, _, rfl, t, _, _, _, rfl, rfl, SqT.of et, rfl, _, rfl, t, _, _, _, rfl, rfl, SqT.of et, rfl, ?_⟩
      refine mk_tri fun u H2 hu S2 hU2 => ?_
      have hil := hT.1
      have nu : u ≠ D := fun z => by rw [z, eD] at hu; cases hu
      refine ⟨_, S2 _ _ eD, small1000 (by rw [List.length_map]; omega), us ++ [u], ?_, by rw [List.length_append, ul]; rfl, fun j v q' e1 e2 => ?_, fun x o e => ?_⟩
      · rw [upd_same, List.map_append]
        rfl
      · have kp : ∀ {v : Addr} {p h : Int} {r : Bool}, Tri CT H2 v p h r → Tri CT (upd H2 D (.lst (us.map V.ref ++ [V.ref u]))) v p h r := fun ⟨dx, fs, g1, g2⟩ => ⟨dx, fs, by rw [upd_ne (fun z => by rw [z, S2 _ _ eD] at g1; cases g1)]; exact g1, g2⟩
        by_cases c : j < us.length
        · rw [List.getElem?_append_left c] at e1
          exact kp ((hU j v q' e1 e2).same S2)
        · rw [List.getElem?_append_right (by omega)] at e1
          have j0 : j - us.length = 0 := by
            have := (List.getElem?_eq_some_iff.mp e1).1
            simp at this
            omega
          rw [j0] at e1
          have ej : j = i := by omega
          rw [ej, hq] at e2
          cases e1
          cases e2
          exact kp hU2
      · rw [upd_ne (ne_of_none e hD)]
        exact S2 _ _ (S _ _ e)
    · rintro H' ⟨us, eD, ul, hU, S⟩
      rw [List.length_map] at ul
      exact k D us H' hD eD ⟨ul.trans hT.1, hU⟩ S
theorem scRws : FnScope ["_law_trials_here", "_law_trial"] ["_law_trials_here"] (defScope sRws) := ⟨rfl, rfl, rfl, by decide +kernel, rfl, by decide +kernel, by decide +kernel⟩
theorem ok_rws {f : Addr} {fd : FuncData} (F : Fun K "_law_rows" "_law_rows" sRws f fd) (TT : TriTxt K mg CT) : FnOk P w K mg base CX0 1 f fd ["_law_trials_here"] (spRws CT) := by
  refine F.ok scRws (fun vs H Q E h => ?_) (fun cdv A outer s H vs Q E hr h => ?_)
  · obtain ⟨a, us, rows, rfl, _⟩ := h
    rfl
  · obtain ⟨a, us, rows, rfl, ha, hT, h900, k⟩ := h
    refine ⟨_, (pss_one (ps_ret (pe_lc (own := [("_law_trial", 1)]) (g := gName 1) (tt := tYes) (te := tTup (tCons (tFld K (tVar 1) "place") (tCons (tFld K (tVar 1) "height") (tCons (tFld K (tVar 1) "reached") tNil)))) (by rfl) scRws.nd (pi_list (pv 0)) (blkOk_by (own := [("_law_trial", 1)]) (N := ["_law_trials_here", "_law_trial"]) (sc := defScope sRws) (by decide +kernel)) (fun _ _ _ _ _ => pg_name (i := 1) scRws.nd rfl (Or.inl rfl)) (fun _ _ _ _ _ => pts_nil)
        (fun _ _ _ _ _ => (pe_tup (pa_cons (pe_fld (pv 1) rfl) (pa_cons (pe_fld (pv 1) rfl) (pa_cons (pe_fld (pv 1) rfl) pa_nil)))))))), ?_⟩
    refine ⟨_, rfl, a, rfl, ⟨_, SqL.of ha⟩, fun D hD => ?_⟩
    refine lc_list (K := K) (a := a) (xs := us.map V.ref) (fun i H' => ∃ ts : List Addr, H' D = some (.lst (ts.map V.ref)) ∧ ts.length = i ∧ (∀ (j : Nat) (t : Addr) (q : Tr), ts[j]? = some t → rows[j]? = some q → H' t = some (.tup (rowV q))) ∧ Same H H')
      ⟨[], upd_same, rfl, (fun _ _ _ h => nomatch h), same_new hD⟩ (fun i H' _ p => by obtain ⟨_, _, _, _, S⟩ := p; exact SqL.of (S _ _ ha)) ?_ ?_
    · rintro i y H' hi ⟨ts, eD, tl, hR, S⟩
      rw [List.getElem?_map] at hi
      obtain ⟨u, hu, rfl⟩ : ∃ u, us[i]? = some u ∧ y = V.ref u := by
        cases e : us[i]? with
        | none => rw [e] at hi; cases hi
        | some t => rw [e] at hi; exact ⟨t, rfl, (Option.some.inj hi).symm⟩
      have hit := (List.getElem?_eq_some_iff.mp hu).1
      obtain ⟨q, hq⟩ : ∃ q, rows[i]? = some q := ⟨_, List.getElem?_eq_getElem (by rw [← hT.1]; exact hit)⟩
      obtain ⟨dx, fs, hx, l1, l2, l3, l4⟩ := (hT.2 i u q hu hq).same S
      refine ⟨rfl, _, rfl, u, CT, dx, fs, _, rfl, hx, TT.cl, TT.nP, l1, _, rfl, u, CT, dx, fs, _, rfl, hx, TT.cl, TT.nH, l2, _, rfl, u, CT, dx, fs, _, rfl, hx, TT.cl, TT.nR, l3, by show 3 ≤ sizeLine; decide, fun t ht => ?_⟩
      have hil := hT.1
      have S2 := same_new (o := .tup [V.int q.1, V.int q.2.1, V.bl q.2.2]) ht
      refine ⟨_, S2 _ _ eD, small1000 (by rw [List.length_map]; omega), ts ++ [t], ?_, by rw [List.length_append, tl]; rfl, fun j v q' e1 e2 => ?_, fun x o e => ?_⟩
      · rw [upd_same, List.map_append]
        rfl
      · have eDt := S2 _ _ eD
        by_cases c : j < ts.length
        · rw [List.getElem?_append_left c] at e1
          have g1 := S2 _ _ (hR j v q' e1 e2)
          rw [upd_ne (fun z => by rw [z, eDt] at g1; cases g1)]
          exact g1
        · rw [List.getElem?_append_right (by omega)] at e1
          have j0 : j - ts.length = 0 := by
            have := (List.getElem?_eq_some_iff.mp e1).1
            simp at this
            omega
          rw [j0] at e1
          have ej : j = i := by omega
          rw [ej, hq] at e2
          cases e1
          cases e2
          rw [upd_ne (fun z => by rw [z] at ht; rw [eD] at ht; cases ht), upd_same]
          rfl
      · rw [upd_ne (ne_of_none e hD)]
        exact S2 _ _ (S _ _ e)
    · rintro H' ⟨ts, eD, tl, hR, S⟩
      rw [List.length_map] at tl
      exact k D ts H' eD ⟨tl.trans hT.1, hR⟩ S
theorem scOut : FnScope ["_law_trials_here", "_law_heights", "e"] ["_law_trials_here", "_law_heights"] (defScope sOut) := ⟨rfl, rfl, rfl, by decide +kernel, rfl, by decide +kernel, by decide +kernel⟩
theorem ok_out {f : Addr} {fd fdM : FuncData} (F : Fun K "_law_outcome" "_law_outcome" sOut f fd) (R : ErrOk P w K mg base "NoPlace" CP "place" okInt) (GM : FnOk P w K mg base (L2.CX P w) 5 fM fdM ["trials", "heights"] (spMis K CP CT)) (FM : Fun K "misread_numbers" "misread_numbers" sMis fM fdM) (bM : Binds K fdM ["trials", "heights"] []) (T : LTxt mg CT fT fM) :
    FnOk P w K mg base CX0 6 f fd ["_law_trials_here", "_law_heights"] (spOut K CT) := by
  refine F.ok scOut (fun vs H Q E h => ?_) (fun cdv A outer s H vs Q E hr h => ?_)
  · obtain ⟨a, l, us, rows, xs, rfl, _⟩ := h
    rfl
  · obtain ⟨a, l, us, rows, xs, rfl, ha, hT, hl, h900, hz, h1, h2⟩ := h
    refine ⟨_, (pss_one (ps_try_as (i := 2) (tb := fun W => tRet (tCallS (spMis K CP CT) (WE W) (tCons (tVar 0) (tCons (tVar 1) tNil)))) (ts := fun a cls d => tRet (tTup (tCons (tC (.str "NoPlace")) (tCons (tXf a cls d CP "place" (tVar 2)) tNil))))
        (Wout := fun _ _ _ _ => False) rfl rfl scOut.nd rfl rfl ⟨rfl, by decide, Or.inl R.g⟩ takes0
        (fun W pn xe tk _ => pss_one (ps_ret (by exact (pe_callS (E := WE W) GM hr (by rfl) T.mis FM.kp bM (fun σ => passAt tk σ) (by exact (pa_cons (pv 0) (pa_cons (pv 1) pa_nil)))))))
        (fun a oe cls d pn hz hf => pss_one (ps_ret (pe_tup (pa_cons pe_str (by exact (pa_cons (pe_xf R.xf R.no hz hf (pv 2)) pa_nil)))))))), ?_⟩
    refine ⟨_, rfl, _, rfl, a, l, us, rows, xs, rfl, .inl (SqL.of ha), hT, SqL.of hl, h900, hz, fun p hp H' d S hd => ⟨true, R.te, fun _ q ha => ?_, fun z => Bool.noConfusion z⟩, fun hn D H' S hD _ => ?_⟩
    · refine ⟨_, rfl, rfl, rfl, d, _, _, rfl, upd_same, rfl, by show 2 ≤ sizeLine; decide, fun t ht => ?_⟩
      exact h1 p hp t _ (fun c o e => same_new ht _ _ (same_new hd _ _ (S _ _ e))) upd_same
    · exact h2 hn D H' S hD
end
end Law

namespace Law
open PySem PySem.Spec PyProof.Rows L2 Sup ItSeq
abbrev sLaw : Stmt := top 16
def spLaw (K : PySem.W.Frag) : Sp := fun vs H Q _ => ∃ (a : Addr) (ns : List Int), vs = [.ref a] ∧ SqL K H a (ns.map V.int) ∧ ns.length ≤ 63 ∧ ∀ H', Q (.bl true) H'
theorem int_ok (n : Int) : PyData.canLay0 (.int n) = true := by simp only [PyData.canLay0]
theorem dp_ints {K : PySem.W.Frag} {H : Hp} : ∀ ns : List Int, DpAll K H (ns.map V.int) (ns.map PyData.int)
  | [] => .nil
  | _ :: ns => .cons (.int _) (dp_ints ns)
theorem shaped_int (n : Int) : SeqAt.shaped (.int n) = true := by
  unfold SeqAt.shaped
  rw [int_ok n]
  simp [PyData.depth]
theorem ok_ints : ∀ ns : List Int, PyData.canLayAll0 (ns.map PyData.int) = true
  | [] => by simp only [List.map_nil, PyData.canLayAll0]
  | n :: ns => by
    rw [List.map_cons]
    simp only [PyData.canLayAll0]
    rw [Bool.and_eq_true]
    exact ⟨int_ok n, ok_ints ns⟩
theorem deep_ints : ∀ ns : List Int, PyData.depthAll (ns.map PyData.int) = 0
  | [] => by simp [PyData.depthAll]
  | n :: ns => by
    rw [List.map_cons]
    simp [PyData.depthAll, PyData.depth, deep_ints ns]
theorem shaped_ints (ns : List Int) : SeqAt.shaped (.list (ns.map PyData.int)) = true := by
  unfold SeqAt.shaped
  have e : PyData.canLay0 (.list (ns.map PyData.int)) = true := by
    simp only [PyData.canLay0]
    exact ok_ints ns
  rw [e]
  simp [PyData.depth, deep_ints]
theorem shaped_ei {y : Str} (n : Int) (hy : PyData.canLay0 (.str y) = true) : SeqAt.shaped (.tuple [.str y, .int n]) = true := by
  have h1 : PyData.canLay0 (.tuple [.str y, .int n]) = true := by
    simp only [PyData.canLay0, PyData.canLayAll0] at hy ⊢
    simp [hy]
  have h2 : PyData.depth (.tuple [.str y, .int n]) ≤ 64 := by
    simp [PyData.depth, PyData.depthAll]
  unfold SeqAt.shaped
  rw [h1, decide_eq_true h2]
  rfl
def rowD (q : Tr) : PyData := .tuple [.int q.1, .int q.2.1, .bool q.2.2]
theorem ok_rows : ∀ rows : List Tr, PyData.canLayAll0 (rows.map rowD) = true
  | [] => by simp only [List.map_nil, PyData.canLayAll0]
  | q :: rows => by
    rw [List.map_cons]
    simp only [PyData.canLayAll0]
    rw [Bool.and_eq_true]
    exact ⟨by simp [rowD, PyData.canLay0, PyData.canLayAll0], ok_rows rows⟩
theorem deep_rows : ∀ rows : List Tr, PyData.depthAll (rows.map rowD) ≤ 10
  | [] => by simp [PyData.depthAll]
  | q :: rows => by
    rw [List.map_cons]
    have := deep_rows rows
    simp [PyData.depthAll, PyData.depth, rowD]
    omega
theorem shaped_rows (rows : List Tr) : SeqAt.shaped (.list (rows.map rowD)) = true := by
  unfold SeqAt.shaped
  have e : PyData.canLay0 (.list (rows.map rowD)) = true := by
    simp only [PyData.canLay0]
    exact ok_rows rows
  have d : PyData.depth (.list (rows.map rowD)) ≤ 64 := by
    have := deep_rows rows
    simp only [PyData.depth]
    omega
  rw [e, decide_eq_true d]
  rfl
theorem dp_rows {K : PySem.W.Frag} {H : Hp} : ∀ {ts : List Addr} {rows : List Tr}, RowsT H ts rows → DpAll K H (ts.map V.ref) (rows.map rowD)
  | [], [], _ => .nil
  | [], _ :: _, h => absurd h.1 (by simp)
  | _ :: _, [], h => absurd h.1 (by simp)
  | t :: ts, q :: rows, h => .cons (.tup (SqT.of (h.2 0 t q rfl rfl)) (.cons (.int _) (.cons (.int _) (.cons (.bl _) .nil))))
      (dp_rows (ts := ts) (rows := rows) ⟨by simpa using h.1, fun i t' q' e1 e2 => h.2 (i + 1) t' q' (by simpa using e1) (by simpa using e2)⟩)
theorem agr_in {xs : List Int} {p h : Int} {r : Bool} {z : Int} (c : 0 ≤ p) (hz : xs[p.toNat]? = some z) : agr xs p h r = some (if r then decide (z ≤ h) else decide (h < z)) := by
  unfold agr
  rw [if_pos c, hz]
  rfl
theorem agr_out {xs : List Int} {p h : Int} {r : Bool} (c : ¬ (0 ≤ p ∧ p < xs.length)) : agr xs p h r = none := by
  unfold agr
  by_cases c0 : 0 ≤ p
  · rw [if_pos c0, List.getElem?_eq_none (by omega)]
    rfl
  · rw [if_neg c0]
theorem agr_some {xs : List Int} {p h : Int} {r : Bool} (c : 0 ≤ p) (d : p < xs.length) : ∃ z, xs[p.toNat]? = some z ∧ agr xs p h r = some (if r then decide (z ≤ h) else decide (h < z)) := by
  obtain ⟨z, hz⟩ : ∃ z, xs[p.toNat]? = some z := ⟨_, List.getElem?_eq_getElem (by omega)⟩
  exact ⟨z, hz, agr_in c hz⟩
theorem near_some {xs : List Int} {q : Tr} (h : Near xs.length q) : (agr3 xs q).isNone = false := by
  obtain ⟨z, _, e⟩ := agr_some (r := q.2.2) (h := q.2.1) h.1 h.2.1
  unfold agr3
  rw [e]
  rfl
theorem strange_none {xs : List Int} {rows : List Tr} (h : ∀ q ∈ rows, Near xs.length q) : strange xs rows = none := by
  unfold strange
  rw [List.find?_eq_none.mpr fun q hq => by rw [near_some (h q hq)]; decide]
  rfl
theorem strange_at {xs : List Int} {as bs : List Tr} {q : Tr} (h : ∀ q ∈ as, Near xs.length q) (hq : agr3 xs q = none) : strange xs (as ++ [q] ++ bs) = some q.1 := by
  unfold strange
  rw [List.append_assoc, List.find?_append, List.find?_eq_none.mpr fun q hq => by rw [near_some (h q hq)]; decide]
  rw [List.singleton_append, List.find?_cons_of_pos (by rw [hq]; rfl)]
  rfl
theorem of_strange {xs : List Int} {rows : List Tr} (h : strange xs rows = none) : ∀ q ∈ rows, 0 ≤ q.1 ∧ q.1 < xs.length := fun q hq => by
  unfold strange at h
  rw [Option.map_eq_none_iff, List.find?_eq_none] at h
  have z := h q hq
  refine Decidable.byContradiction fun c => ?_
  rw [show agr3 xs q = none from agr_out c] at z
  exact z rfl
theorem wrong_pin {xs : List Int} {p z : Int} (p0 : 0 ≤ p) (hz : xs[p.toNat]? = some z) : wrong xs [(p, z, true), (p, z - 1, false)] = [] := by
  unfold wrong
  have e1 : agr3 xs (p, z, true) = some true := by
    show agr xs p z true = _
    rw [agr_in p0 hz]
    simp
  have e2 : agr3 xs (p, z - 1, false) = some true := by
    show agr xs p (z - 1) false = _
    rw [agr_in p0 hz]
    simp
    omega
  have e : List.range ([(p, z, true), (p, z - 1, false)] : List Tr).length = [0, 1] := rfl
  rw [e]
  simp [e1, e2]
theorem wrong_near {xs : List Int} {p z z' : Int} (p0 : 0 ≤ p) (hz : xs[p.toNat]? = some z') (c : z' = z + 1 ∨ z' = z - 1) : (wrong xs [(p, z, true), (p, z - 1, false)]).length = 1 := by
  unfold wrong
  have e1 : agr3 xs (p, z, true) = some (decide (z' ≤ z)) := by
    show agr xs p z true = _
    rw [agr_in p0 hz]
    simp
  have e2 : agr3 xs (p, z - 1, false) = some (decide (z - 1 < z')) := by
    show agr xs p (z - 1) false = _
    rw [agr_in p0 hz]
    simp
  have e : List.range ([(p, z, true), (p, z - 1, false)] : List Tr).length = [0, 1] := rfl
  rw [e]
  rcases c with rfl | rfl
  · have d1 : decide (z + 1 ≤ z) = false := by simp; omega
    have d2 : decide (z - 1 < z + 1) = true := by simp; omega
    simp [e1, e2, d1, d2]
  · have d1 : decide (z - 1 ≤ z) = true := by simp; omega
    have d2 : decide (z - 1 < z - 1) = false := by simp
    simp [e1, e2, d1, d2]
/-- heights at c, rows at D, the box -/
structure Wr (b l c D : Addr) (H : Hp) (xs : List Int) (ts : List Addr) (rows : List Tr) : Prop where
  B : Box H b l
  hc : H c = some (.lst (xs.map V.int))
  eD : H D = some (.lst (ts.map V.ref))
  hT : RowsT H ts rows
  nc : D ≠ c
  nl : D ≠ l
theorem Wr.same {b l c D : Addr} {H H' : Hp} {xs : List Int} {ts : List Addr} {rows : List Tr} (W : Wr b l c D H xs ts rows) (s : Same H H') : Wr b l c D H' xs ts rows := ⟨W.B.same s, s _ _ W.hc, s _ _ W.eD, W.hT.same s, W.nc, W.nl⟩
theorem Wr.draw {b l c D : Addr} {H H' : Hp} {xs : List Int} {ts : List Addr} {rows : List Tr} (W : Wr b l c D H xs ts rows) (B' : Box H' b l) (s : SameB b H H') : Wr b l c D H' xs ts rows :=
  ⟨B', s _ _ (W.B.neNs W.hc) W.hc, s _ _ (W.B.neRs W.eD) W.eD, W.hT.sameB W.B s, W.nc, W.nl⟩
/-- the list of rows is changed -/
theorem Wr.put {b l c D : Addr} {H : Hp} {xs : List Int} {ts ts' : List Addr} {rows rows' : List Tr} (W : Wr b l c D H xs ts rows) (h : RowsT H ts' rows') : Wr b l c D (upd H D (.lst (ts'.map V.ref))) xs ts' rows' :=
  ⟨W.B.at ⟨Ne.symm (W.B.neRs W.eD), Ne.symm W.nl⟩, by rw [upd_ne (Ne.symm W.nc)]; exact W.hc, upd_same, h.keep fun x ys e => by rw [upd_ne (fun z => by rw [z, W.eD] at e; cases e)]; exact e, W.nc, W.nl⟩
theorem RowsT.app {H : Hp} {ts us : List Addr} {rows sows : List Tr} (h : RowsT H ts rows) (g : RowsT H us sows) : RowsT H (ts ++ us) (rows ++ sows) := by
  refine ⟨by rw [List.length_append, List.length_append, h.1, g.1], fun i u z e1 e2 => ?_⟩
  by_cases c : i < ts.length
  · rw [List.getElem?_append_left c] at e1
    rw [List.getElem?_append_left (by rw [← h.1]; exact c)] at e2
    exact h.2 i u z e1 e2
  · rw [List.getElem?_append_right (by omega)] at e1
    rw [List.getElem?_append_right (by rw [← h.1]; omega), ← h.1] at e2
    exact g.2 _ u z e1 e2
theorem RowsT.take {H : Hp} {ts : List Addr} {rows : List Tr} (h : RowsT H ts rows) (n : Nat) : RowsT H (ts.take n) (rows.take n) := by
  refine ⟨by rw [List.length_take, List.length_take, h.1], fun i u z e1 e2 => ?_⟩
  have c : i < n := by
    have := (List.getElem?_eq_some_iff.mp e1).1
    rw [List.length_take] at this
    omega
  rw [List.getElem?_take_of_lt c] at e1 e2
  exact h.2 i u z e1 e2
theorem RowsT.drop {H : Hp} {ts : List Addr} {rows : List Tr} (h : RowsT H ts rows) (n : Nat) : RowsT H (ts.drop n) (rows.drop n) := by
  refine ⟨by rw [List.length_drop, List.length_drop, h.1], fun i u z e1 e2 => ?_⟩
  rw [List.getElem?_drop] at e1 e2
  exact h.2 _ u z e1 e2
theorem RowsT.one {H : Hp} {t : Addr} {q : Tr} (e : H t = some (.tup (rowV q))) : RowsT H [t] [q] := ⟨rfl, fun i u z e1 e2 => by
  cases i with
  | zero => cases e1; cases e2; exact e
  | succ i => cases e1⟩
theorem Tri.sameB {CT : Addr} {H H' : Hp} {b l x : Addr} {p h : Int} {r : Bool} (t : Tri CT H x p h r) (B : Box H b l) (s : SameB b H H') : Tri CT H' x p h r := by
  obtain ⟨dx, fs, h1, h2⟩ := t
  exact ⟨dx, fs, s _ _ (B.neI h1).1 h1, h2⟩
structure MTxt (mg : Str → Option Value) (fB fT fTs fTr fRw fOu fNm fPi fM : Addr) : Prop where
  box : mg "_law_box" = some (.ref fB)
  take : mg "_law_take" = some (.ref fT)
  trs : mg "_law_tries" = some (.ref fTs)
  trl : mg "_law_trials" = some (.ref fTr)
  rws : mg "_law_rows" = some (.ref fRw)
  out : mg "_law_outcome" = some (.ref fOu)
  nms : mg "_law_numbers" = some (.ref fNm)
  pin : mg "pinned" = some (.ref fPi)
  mis : mg "misread_numbers" = some (.ref fM)
  b_range : mg "range" = none
  b_list : mg "list" = none
  b_len : mg "len" = none
  b_tuple : mg "tuple" = none
  b_isinstance : mg "isinstance" = none
section
variable {P : Program} {w : World} {K : PySem.W.Frag} {mg : Str → Option Value} {base : Heap} {CP CT : Addr}
theorem scLaw : FnScope ["_law_script", "_law_box_here", "_law_tall", "_law_heights", "_law_k", "_law_rows_here", "_law_strange", "_law_odd", "_law_trials_here", "_law_passed", "_law_told", "_law_due", "_law_place", "_law_pins", "_law_near"] ["_law_script"] (defScope sLaw) := ⟨rfl, rfl, rfl, by decide +kernel, rfl, by decide +kernel, by decide +kernel⟩
set_option maxHeartbeats 0 in
theorem ok_law {f fB fT fTs fTr fRw fOu fNm fPi fM : Addr} {fd fdB fdT fdTs fdTr fdRw fdOu fdNm fdPi fdM : FuncData} (F : Fun K "law" "law" sLaw f fd) (T : MTxt mg fB fT fTs fTr fRw fOu fNm fPi fM)
    (GB : FnOk P w K mg base CX0 1 fB fdB ["_law_script"] (spBox K)) (FB : Fun K "_law_box" "_law_box" sBox fB fdB) (bB : Binds K fdB ["_law_script"] [])
    (GT : FnOk P w K mg base CX0 1 fT fdT ["_law_box_here", "_law_size"] spTake) (FT : Fun K "_law_take" "_law_take" sTake fT fdT) (bT : Binds K fdT ["_law_box_here", "_law_size"] [])
    (GTs : FnOk P w K mg base CX0 2 fTs fdTs ["_law_box_here", "_law_truth", "_law_count", "_law_tall"] spTrs) (FTs : Fun K "_law_tries" "_law_tries" sTrs fTs fdTs) (bTs : Binds K fdTs ["_law_box_here", "_law_truth", "_law_count", "_law_tall"] [])
    (GTr : FnOk P w K mg base CX0 3 fTr fdTr ["_law_rows_here"] (spTri K CT)) (FTr : Fun K "_law_trials" "_law_trials" sTri fTr fdTr) (bTr : Binds K fdTr ["_law_rows_here"] [])
    (GRw : FnOk P w K mg base CX0 1 fRw fdRw ["_law_trials_here"] (spRws CT)) (FRw : Fun K "_law_rows" "_law_rows" sRws fRw fdRw) (bRw : Binds K fdRw ["_law_trials_here"] [])
    (GOu : FnOk P w K mg base CX0 6 fOu fdOu ["_law_trials_here", "_law_heights"] (spOut K CT)) (FOu : Fun K "_law_outcome" "_law_outcome" sOut fOu fdOu) (bOu : Binds K fdOu ["_law_trials_here", "_law_heights"] [])
    (GNm : FnOk P w K mg base CX0 1 fNm fdNm ["_law_row", "_law_due"] (spNms K)) (FNm : Fun K "_law_numbers" "_law_numbers" sNms fNm fdNm) (bNm : Binds K fdNm ["_law_row", "_law_due"] [])
    (GPi : FnOk P w K mg base CX0 3 fPi fdPi ["place", "height"] (spPin CT)) (FPi : Fun K "pinned" "pinned" sPin fPi fdPi) (bPi : Binds K fdPi ["place", "height"] [])
    (GM : FnOk P w K mg base (L2.CX P w) 5 fM fdM ["trials", "heights"] (spMis K CP CT)) (FM : Fun K "misread_numbers" "misread_numbers" sMis fM fdM) (bM : Binds K fdM ["trials", "heights"] []) :
    FnOk P w K mg base CX0 7 f fd ["_law_script"] (spLaw K) := by
  refine F.ok scLaw (fun vs H Q E h => ?_) (fun cdv A outer s H vs Q E hr h => ?_)
  · obtain ⟨a, ns, rfl, _⟩ := h
    rfl
  · obtain ⟨a, ns, rfl, hS, h63, k⟩ := h
    have hr6 : Room 6 _ := hr
    have hr5 : Room 5 _ := hr.mono (by decide)
    have hr3 : Room 3 _ := hr.mono (by decide)
    have hr2 : Room 2 _ := hr.mono (by decide)
    have hr1 : Room 1 _ := hr.mono (by decide)
    refine ⟨_, (pss_cons (ps_set (i := 1) scLaw.nd rfl (Or.inr rfl) (pe_call GB hr1 rfl T.box FB.kp bB .nil pass0 (pa_cons (pv 0) pa_nil)))
      (pss_cons (ps_set (i := 2) scLaw.nd rfl (Or.inr rfl) (pe_ix ix_list (pe_lst (pa_cons pe_int (pa_cons (pe_op op_pow pe_int pe_int) pa_nil))) (pe_call GT hr1 rfl T.take FT.kp bT .nil pass0 (pa_cons (pv 1) (pa_cons pe_int pa_nil))) (fun _ _ => rfl)))
      (pss_cons (ps_set (i := 3) scLaw.nd rfl (Or.inr rfl) (pe_lc (own := [("_law_k", 4)]) (g := gName 4) (tt := tYes) (by rfl) scLaw.nd (pi_range1 (by rfl) T.b_range (pa_cons (pe_op op_add pe_int (pe_call GT hr1 rfl T.take FT.kp bT .nil pass0 (pa_cons (pv 1) (pa_cons pe_int pa_nil)))) pa_nil)) (blkOk_by (own := [("_law_k", 4)]) (N := ["_law_script", "_law_box_here", "_law_tall", "_law_heights", "_law_k", "_law_rows_here", "_law_strange", "_law_odd", "_law_trials_here", "_law_passed", "_law_told", "_law_due", "_law_place", "_law_pins", "_law_near"]) (sc := defScope sLaw) (by decide +kernel)) (fun _ _ _ _ _ => pg_name (i := 4) scLaw.nd rfl (Or.inl rfl)) (fun _ _ _ _ _ => pts_nil) (fun _ _ _ _ _ => (pe_call GT hr1 rfl T.take FT.kp bT .nil pass0 (pa_cons (pv 1) (pa_cons (pe_op op_add (pv 2) pe_int) pa_nil))))))
      (pss_cons (ps_set (i := 5) scLaw.nd rfl (Or.inr rfl) (pe_call GTs hr2 rfl T.trs FTs.kp bTs .nil pass0 (pa_cons (pv 1) (pa_cons (pv 3) (pa_cons (pe_call GT hr1 rfl T.take FT.kp bT .nil pass0 (pa_cons (pv 1) (pa_cons pe_int pa_nil))) (pa_cons (pv 2) pa_nil))))))
      (C8.pss_cut (ps_if (PW.pt (pw_and (pt_cmpR op_gt (pe_callB call_len_seq (by rfl) T.b_len PySem.boot_len (pa_cons (pv 5) pa_nil)) pe_int (nomark _)) (pw_and1 (pt_cmpR op_eq (pe_call GT hr1 rfl T.take FT.kp bT .nil pass0 (pa_cons (pv 1) (pa_cons pe_int pa_nil))) pe_int (nomark _))))) (pss_one (ps_expr (pe_bm PySem.F.plainAttrs_list PySem.F.slot_list_append PySem.F.type_list_append mt_append (pv 5) (pa_cons (pe_ix ix_list (pv 5) (pe_call GT hr1 rfl T.take FT.kp bT .nil pass0 (pa_cons (pv 1) (pa_cons (pe_callB call_len_seq (by rfl) T.b_len PySem.boot_len (pa_cons (pv 5) pa_nil)) pa_nil))) (fun _ _ => rfl)) pa_nil)))) pss_nil)
      (pss_cons (ps_set (i := 6) scLaw.nd rfl (Or.inl rfl) (pe_lst pa_nil))
      (C8.pss_cut (ps_if (pt_cmpR op_eq (pe_call GT hr1 rfl T.take FT.kp bT .nil pass0 (pa_cons (pv 1) (pa_cons pe_int pa_nil))) pe_int (nomark _)) (pss_cons (ps_set (i := 7) scLaw.nd rfl (Or.inl rfl) (pe_ix ix_list (pe_lst (pa_cons (pe_callB call_len_seq (by rfl) T.b_len PySem.boot_len (pa_cons (pv 3) pa_nil)) (pa_cons (pe_op op_add (pe_callB call_len_seq (by rfl) T.b_len PySem.boot_len (pa_cons (pv 3) pa_nil)) pe_int) (pa_cons (pe_op op_sub (pe_un un_neg pe_int) (pe_call GT hr1 rfl T.take FT.kp bT .nil pass0 (pa_cons (pv 1) (pa_cons (pe_callB call_len_seq (by rfl) T.b_len PySem.boot_len (pa_cons (pv 3) pa_nil)) pa_nil)))) pa_nil)))) (pe_call GT hr1 rfl T.take FT.kp bT .nil pass0 (pa_cons (pv 1) (pa_cons pe_int pa_nil))) (fun _ _ => rfl)))
      (pss_cons (ps_expr (pe_bm PySem.F.plainAttrs_list PySem.F.slot_list_insert PySem.F.type_list_insert mt_insert (pv 5) (pa_cons (pe_call GT hr1 rfl T.take FT.kp bT .nil pass0 (pa_cons (pv 1) (pa_cons (pe_op op_add (pe_callB call_len_seq (by rfl) T.b_len PySem.boot_len (pa_cons (pv 5) pa_nil)) pe_int) pa_nil))) (pa_cons (pe_tup (pa_cons (pv 7) (pa_cons pe_int (pa_cons pe_bl pa_nil)))) pa_nil))))
      (pss_cons (ps_set (i := 6) scLaw.nd rfl (Or.inl rfl) (pe_lst (pa_cons (pv 7) pa_nil)))
      (pss_one (ps_expr (pe_bm PySem.F.plainAttrs_list PySem.F.slot_list_append PySem.F.type_list_append mt_append (pv 5) (pa_cons (pe_tup (pa_cons (pe_op op_add (pv 7) pe_int) (pa_cons pe_int (pa_cons pe_bl pa_nil)))) pa_nil))))))) pss_nil)
      (pss_cons (ps_set (i := 8) scLaw.nd rfl (Or.inl rfl) (pe_call GTr hr3 rfl T.trl FTr.kp bTr .nil pass0 (pa_cons (pv 5) pa_nil)))
      (pss_cons (ps_set (i := 9) scLaw.nd rfl (Or.inl rfl) (pe_callTy call_list_of (by rfl) T.b_list (by decide +kernel) (pa_cons (pv 3) pa_nil)))
      (C8.pss_cut (ps_set (i := 10) scLaw.nd rfl (Or.inl rfl) (pe_call GOu hr6 rfl T.out FOu.kp bOu .nil pass0 (pa_cons (pv 8) (pa_cons (pv 9) pa_nil))))
      (pss_cons (ps_if (PW.pt (pw_or (pt_cmpR (op_neD hr.units) (pv 9) (pv 3) (nomark _)) (pw_or1 (pt_cmpR (op_neD hr.units) (pe_call GRw hr1 rfl T.rws FRw.kp bRw .nil pass0 (pa_cons (pv 8) pa_nil)) (pv 5) (nomark _))))) (pss_one (ps_ret pe_bl)) pss_nil)
      (C8.pss_cut (ps_if (pt_cmpR op_gt (pe_callB call_len_seq (by rfl) T.b_len PySem.boot_len (pa_cons (pv 6) pa_nil)) pe_int (nomark _)) (pss_one (ps_if (pt_cmpR (op_neD hr.units) (pv 10) (pe_tup (pa_cons pe_str (pa_cons (pe_ix ix_list (pv 6) pe_int (fun _ _ => rfl)) pa_nil))) (nomark _)) (pss_one (ps_ret pe_bl)) pss_nil)) (pss_cons (ps_setLc (i := 11) (own := [("_law_k", 4)]) (g := gName 4) (by rfl) scLaw.nd rfl rfl (sw_true rfl rfl rfl (by decide +kernel)) (pi_range1 (by rfl) T.b_range (pa_cons (pe_callB call_len_seq (by rfl) T.b_len PySem.boot_len (pa_cons (pv 5) pa_nil)) pa_nil)) (blkOk_by (own := [("_law_k", 4)]) (N := ["_law_script", "_law_box_here", "_law_tall", "_law_heights", "_law_k", "_law_rows_here", "_law_strange", "_law_odd", "_law_trials_here", "_law_passed", "_law_told", "_law_due", "_law_place", "_law_pins", "_law_near"]) (sc := defScope sLaw) (by decide +kernel)) (fun _ _ _ _ _ => pg_name (i := 4) scLaw.nd rfl (Or.inl rfl)) (fun _ _ _ _ _ => (pts_one (pt_cmpR op_ne (pe_cmpR op_le (pe_ix (r := rIxL K) ix_list (pv 3) (pe_ix (r := rIxT K) ix_tup (pe_ix (r := rIxL K) ix_list (pv 5) (pv 4) (fun _ _ => rfl)) pe_int (fun _ _ => rfl)) (fun _ _ => rfl)) (pe_ix (r := rIxT K) ix_tup (pe_ix (r := rIxL K) ix_list (pv 5) (pv 4) (fun _ _ => rfl)) pe_int (fun _ _ => rfl)) (nomark _)) (pe_ix (r := rIxT K) ix_tup (pe_ix (r := rIxL K) ix_list (pv 5) (pv 4) (fun _ _ => rfl)) pe_int (fun _ _ => rfl)) (nomark _)))) (fun _ _ _ _ _ => (pv 4)))
      (pss_one (ps_if (PW.pt (pw_or (pt_not (pt_val (pe_call GNm hr1 rfl T.nms FNm.kp bNm .nil pass0 (pa_cons (pv 10) (pa_cons (pv 11) pa_nil))))) (pw_or1 (pt_not (pt_val (pe_call GNm hr1 rfl T.nms FNm.kp bNm .nil pass0 (pa_cons (pe_call (E := E0) GM hr5 rfl T.mis FM.kp bM .nil passL (pa_cons (pe_callTy call_tuple_of (by rfl) T.b_tuple (by decide +kernel) (pa_cons (pv 8) pa_nil)) (pa_cons (pv 9) pa_nil))) (pa_cons (pv 11) pa_nil)))))))) (pss_one (ps_ret pe_bl)) pss_nil))))
      (pss_cons (ps_set (i := 12) scLaw.nd rfl (Or.inl rfl) (pe_call GT hr1 rfl T.take FT.kp bT .nil pass0 (pa_cons (pv 1) (pa_cons (pe_callB call_len_seq (by rfl) T.b_len PySem.boot_len (pa_cons (pv 3) pa_nil)) pa_nil))))
      (pss_cons (ps_set (i := 13) scLaw.nd rfl (Or.inl rfl) (pe_call GPi hr3 rfl T.pin FPi.kp bPi .nil pass0 (pa_cons (pv 12) (pa_cons (pe_ix ix_list (pv 3) (pv 12) (fun _ _ => rfl)) pa_nil))))
      (pss_cons (ps_if (pt_not (pt_val (pe_callB call_isi (by rfl) T.b_isinstance (by decide +kernel) (pa_cons (pv 13) (pa_cons (pe_bltn (v := .ty "list") (by rfl) T.b_list (by decide +kernel) rfl) pa_nil))))) (pss_one (ps_ret pe_bl)) pss_nil)
      (pss_cons (ps_if (pt_cmpR (op_neD hr.units) (pe_call GRw hr1 rfl T.rws FRw.kp bRw .nil pass0 (pa_cons (pv 13) pa_nil)) (pe_lst (pa_cons (pe_tup (pa_cons (pv 12) (pa_cons (pe_ix ix_list (pv 3) (pv 12) (fun _ _ => rfl)) (pa_cons pe_bl pa_nil)))) (pa_cons (pe_tup (pa_cons (pv 12) (pa_cons (pe_op op_sub (pe_ix ix_list (pv 3) (pv 12) (fun _ _ => rfl)) pe_int) (pa_cons pe_bl pa_nil)))) pa_nil))) (nomark _)) (pss_one (ps_ret pe_bl)) pss_nil)
      (pss_cons (ps_set (i := 14) scLaw.nd rfl (Or.inl rfl) (pe_callTy call_list_of (by rfl) T.b_list (by decide +kernel) (pa_cons (pv 3) pa_nil)))
      (pss_cons (ps_asg (pe_op op_sub (pe_op op_add (pe_ix ix_list (pv 14) (pv 12) (fun _ _ => rfl)) pe_int) (pe_op op_mulW pe_int (pe_call GT hr1 rfl T.take FT.kp bT .nil pass0 (pa_cons (pv 1) (pa_cons pe_int pa_nil))))) (pg_sub (pv 14) (pv 12) set_list))
      (pss_one (ps_ret (pe_and (pe_cmpR (op_eqD hr.units) (pe_call (E := E0) GM hr5 rfl T.mis FM.kp bM .nil passL (pa_cons (pv 13) (pa_cons (pv 9) pa_nil))) (pe_lst pa_nil) (nomark _)) (pe_one (pe_cmpR op_eq (pe_callB call_len_seq (by rfl) T.b_len PySem.boot_len (pa_cons (pe_call (E := E0) GM hr5 rfl T.mis FM.kp bM .nil passL (pa_cons (pv 13) (pa_cons (pv 14) pa_nil))) pa_nil)) pe_int (nomark _)))))))))))))))))))))))), ?_⟩
    refine ⟨_, rfl, a, ns, rfl, hS, h63, fun b l H1 B1 nb nl s1 => ?_⟩
    have pick : ∀ {m n : Int} {g : Int}, 0 ≤ g → g < 2 → atI [V.int m, V.int n] g = some (.int m) ∨ atI [V.int m, V.int n] g = some (.int n) := fun {m n g} h0 h1 => by
      rcases (by omega : g = 0 ∨ g = 1) with rfl | rfl
      · exact .inl rfl
      · exact .inr rfl
    -- how tall
    refine ⟨_, _, rfl, rfl, pow_ok (by decide), by show 2 ≤ sizeLine; decide, fun pl hpl => ?_⟩
    have s2 := same_new (o := .lst [V.int 9, V.int (10 ^ 20)]) hpl
    have B2 := B1.same s2
    have epl : upd H1 pl (.lst [V.int 9, V.int (10 ^ 20)]) pl = some (.lst ([9, 10 ^ 20].map V.int)) := upd_same
    refine ⟨_, rfl, b, l, _, rfl, B2, by decide, by decide, fun g H3 g0 g1 B3 k3 => ?_⟩
    have epl := SameB.of k3 _ _ (B2.neNs epl) epl
    obtain ⟨tall, hm, t9, t20⟩ : ∃ m : Int, atI (([9, 10 ^ 20] : List Int).map V.int) g = some (.int m) ∧ 9 ≤ m ∧ m ≤ 10 ^ 20 := by
      rcases pick (m := 9) (n := 10 ^ 20) g0 g1 with e | e
      · exact ⟨9, e, by decide, by decide⟩
      · exact ⟨10 ^ 20, e, by decide, by decide⟩
    refine ⟨pl, _, _, _, rfl, rfl, SqL.of epl, hm, ?_⟩
    clear epl B2 s2 hpl
    -- the heights
    refine ⟨_, rfl, b, l, _, rfl, B3, by decide, by decide, fun u H4 u0 u1 B4 k4 => ⟨_, _, rfl, rfl, _, rfl, by omega, by omega, fun c hc => ?_⟩⟩
    have ncb : c ≠ b := Ne.symm (B4.free hc).1
    refine lc_range (lo := 0) (n := (1 + u).toNat) (fun j H' => ∃ xs : List Int, H' c = some (.lst (xs.map V.int)) ∧ xs.length = j ∧ (∀ x ∈ xs, x.natAbs ≤ 10 ^ 30) ∧ Box H' b l ∧ SameB b H4 H')
      ⟨[], upd_same, rfl, (fun _ h => nomatch h), B4.at (B4.free hc), fun x o nx e => same_new hc _ _ e⟩ ?_ ?_
    · rintro j H5 hj ⟨xs, y1, y2, y3, B5, s5⟩
      refine ⟨rfl, _, rfl, _, rfl, _, _, rfl, rfl, b, l, _, rfl, B5, by omega, size_fit (by omega) (by omega), fun g H6 g0 g1 B6 k6 => ?_⟩
      refine ⟨_, (k6 c ncb).trans y1, small1000 (by rw [List.length_map]; omega), xs ++ [g], ?_, by rw [List.length_append, y2]; rfl, fun y hy => ?_, ?_, ?_⟩
      · rw [upd_same, List.map_append]
        rfl
      · rcases List.mem_append.mp hy with hy | hy
        · exact y3 y hy
        · rw [List.mem_singleton] at hy
          omega
      · refine B6.keep fun d hd => upd_ne ?_
        rcases hd with rfl | rfl
        · exact Ne.symm ncb
        · exact (B4.free hc).2
      · intro d o nd e
        rw [upd_ne (ne_of_none e hc), k6 d nd]
        exact s5 d o nd e
    rintro H5 ⟨xs, y1, y2, y3, B5, s5⟩
    have x0 : 0 < xs.length := by omega
    have x24 : xs.length ≤ 6 := by omega
    clear s5 hc B4 k4 B3 k3 ncb
    refine ⟨_, rfl, _, rfl, _, rfl, b, l, _, rfl, B5, by decide, by decide, fun n H6 n0 n1 B6 k6 => ?_⟩
    have hc := SameB.of k6 _ _ (B5.neNs y1) y1
    refine ⟨_, rfl, b, l, c, xs, n, tall, rfl, B6, hc, x0, by omega, y3, n0, by omega, by omega, t20, fun D ts rows H7 hD eD hT rl hN B7 s7 => ?_⟩
    have nDl : D ≠ l := fun z => by
      obtain ⟨_, _, _, _, _, hl, _⟩ := B6
      rw [z, hl] at hD
      cases hD
    have W : Wr b l c D H7 xs ts rows := ⟨B7, s7 _ _ (B6.neNs hc) hc, eD, hT, (fun z => by rw [z, hc] at hD; cases hD), nDl⟩
    clear hD eD hT s7 hc B5 B6 k6 B7 y1
    have rl : rows.length ≤ 14 := by omega
    let σ0 : Option V → Option V → L2.St := fun v w => [some (.ref a), some (.ref b), some (.int tall), some (.ref c), none, some (.ref D), v, w, none, none, none, none, none, none, none]
    refine ⟨fun σ' H' => ∃ ts rows, σ' = σ0 none none ∧ Wr b l c D H' xs ts rows ∧ rows.length ≤ 15 ∧ ∀ q ∈ rows, Near xs.length q, ?_, ?_⟩
    · refine ⟨_, rfl, D, _, rfl, .inl (SqL.of W.eD), _, _, rfl, rfl, _, rfl, ?_⟩
      by_cases cl : (0 : Int) < ((ts.map V.ref).length : Int)
      · refine if_t (decide_eq_true cl) ?_
        refine ⟨_, rfl, b, l, _, rfl, W.B, by decide, by decide, fun y H8 y0 y1 B8 k8 => ⟨rfl, _, rfl, ?_⟩⟩
        have W8 := W.draw B8 (SameB.of k8)
        refine ite2 (fun _ => ?_) fun _ => ⟨ts, rows, rfl, W8, by omega, hN⟩
        have tl := W.hT.1
        refine ⟨_, rfl, .inl ⟨rfl, _, SqL.of W8.eD⟩, _, rfl, _, rfl, _, rfl, D, _, rfl, .inl (SqL.of W8.eD), b, l, _, rfl, W8.B, cl, size_fit cl (by rw [List.length_map]; omega), fun j H9 j0 j1 B9 k9 => ?_⟩
        have W9 := W8.draw B9 (SameB.of k9)
        rw [List.length_map] at j1
        obtain ⟨t, ht⟩ : ∃ t, ts[j.toNat]? = some t := ⟨_, List.getElem?_eq_getElem (by omega)⟩
        obtain ⟨q, hq⟩ : ∃ q, rows[j.toNat]? = some q := ⟨_, List.getElem?_eq_getElem (by omega)⟩
        have ht' : atI (ts.map V.ref) j = some (V.ref t) := by
          obtain ⟨m, rfl⟩ := Int.eq_ofNat_of_zero_le j0
          exact atI_nat (by rw [List.getElem?_map]; simp at ht; rw [ht]; rfl)
        refine ⟨D, _, _, _, rfl, rfl, SqL.of W9.eD, ht', D, _, _, rfl, rfl, W9.eD, small1000 (by rw [List.length_map]; omega), ?_⟩
        refine ⟨ts ++ [t], rows ++ [q], rfl, ?_, by rw [List.length_append]; show rows.length + 1 ≤ 15; omega, fun z hz => ?_⟩
        · have := W9.put (W9.hT.snoc (W9.hT.2 _ _ _ ht hq))
          rw [List.map_append] at this
          exact this
        · rcases List.mem_append.mp hz with hz | hz
          · exact hN z hz
          · rw [List.mem_singleton] at hz
            subst hz
            exact hN _ (List.mem_of_getElem? hq)
      · exact if_f (decide_eq_false cl) ⟨ts, rows, rfl, W, by omega, hN⟩
    clear W hN rl
    rintro σ' H8 ⟨ts, rows, rfl, W, rl, hN⟩
    refine ⟨by show 0 ≤ sizeLine; decide, fun sa hsa => ?_⟩
    have W9 := W.same (same_new (o := .lst []) hsa)
    have esa : upd H8 sa (.lst []) sa = some (.lst (([] : List Int).map V.int)) := upd_same
    generalize upd H8 sa (.lst []) = H9 at W9 esa ⊢
    clear W hsa
    refine ⟨fun σ' H' => ∃ (v : Option V) (sa : Addr) (so : Option Int) (ts : List Addr) (rows : List Tr), σ' = σ0 (some (.ref sa)) v ∧ Wr b l c D H' xs ts rows ∧ H' sa = some (.lst (so.toList.map V.int)) ∧ strange xs rows = so ∧ rows.length ≤ 40 ∧ ∀ q ∈ rows, q.1.natAbs < 2 ^ 1000, ?_, ?_⟩
    · refine ⟨_, rfl, b, l, _, rfl, W9.B, by decide, by decide, fun y HA y0 y1 BA kA => ⟨rfl, _, rfl, ?_⟩⟩
      have sA := SameB.of kA
      have WA := W9.draw BA sA
      have esaA := sA _ _ (W9.B.neNs esa) esa
      have z10 : ∀ {x : Int}, x.natAbs ≤ 10 ^ 42 → x.natAbs < 2 ^ 1000 := fun {x} h1 => Nat.lt_of_le_of_lt h1 (by decide +kernel)
      refine ite2 (fun _ => ?_) fun _ => ⟨none, sa, none, ts, rows, rfl, WA, esaA, strange_none hN, by omega, fun q hq => z10 (by have := hN q hq; unfold Near at this; omega)⟩
      refine ⟨_, rfl, c, _, rfl, .inl (SqL.of WA.hc), _, rfl, c, _, rfl, .inl (SqL.of WA.hc), _, _, rfl, rfl, _, rfl, _, rfl, _, rfl, c, _, rfl, .inl (SqL.of WA.hc), b, l, _, rfl, WA.B, by rw [List.length_map]; omega, size_fit (by rw [List.length_map]; omega) (by rw [List.length_map]; omega), fun g HB g0 g1 BB kB => ⟨_, _, rfl, rfl, by show 3 ≤ sizeLine; decide, fun pl hpl => ?_⟩⟩
      rw [List.length_map] at g1
      have WB := WA.draw BB (SameB.of kB)
      have hol := List.length_map (f := V.int) (as := xs)
      have epl : upd HB pl (.lst [V.int ((xs.map V.int).length : Int), V.int ((xs.map V.int).length + 7), V.int (-1 - g)]) pl = some (.lst (([((xs.length : Nat) : Int), (xs.length : Int) + 7, -1 - g] : List Int).map V.int)) := by
        rw [upd_same, hol]
        rfl
      have WC := WB.same (same_new (o := .lst [V.int ((xs.map V.int).length : Int), V.int ((xs.map V.int).length + 7), V.int (-1 - g)]) hpl)
      refine ⟨_, rfl, b, l, _, rfl, WC.B, by decide, by decide, fun y HD y0 y1 BD kD => ?_⟩
      have epl := SameB.of kD _ _ (WC.B.neNs epl) epl
      have WD := WC.draw BD (SameB.of kD)
      obtain ⟨o, ho, ho1, ho2⟩ : ∃ o : Int, atI (([((xs.length : Nat) : Int), (xs.length : Int) + 7, -1 - g] : List Int).map V.int) y = some (.int o) ∧ ¬ (0 ≤ o ∧ o < xs.length) ∧ o.natAbs ≤ 100 := by
        rcases (by omega : y = 0 ∨ y = 1 ∨ y = 2) with rfl | rfl | rfl
        · exact ⟨_, rfl, by omega, by omega⟩
        · exact ⟨_, rfl, by omega, by omega⟩
        · exact ⟨_, rfl, by omega, by omega⟩
      refine ⟨pl, _, _, _, rfl, rfl, SqL.of epl, ho, ?_⟩
      clear epl WC WB WA
      have tl := WD.hT.1
      refine ⟨_, rfl, .inl ⟨rfl, _, SqL.of WD.eD⟩, _, rfl, _, rfl, D, _, rfl, .inl (SqL.of WD.eD), _, _, rfl, rfl, b, l, _, rfl, WD.B, by omega, size_fit (by omega) (by rw [List.length_map]; omega), fun j HE j0 j1 BE kE => ?_⟩
      have WE := WD.draw BE (SameB.of kE)
      rw [List.length_map] at j1
      clear WD BE kE
      refine ⟨_, rfl, by show 3 ≤ sizeLine; decide, fun t ht => ?_⟩
      have WF := WE.same (same_new (o := .tup [V.int o, V.int 3, V.bl true]) ht)
      have et : upd HE t (.tup [V.int o, V.int 3, V.bl true]) t = some (.tup (rowV (o, 3, true))) := upd_same
      refine ⟨D, _, _, _, rfl, rfl, WF.eD, small1000 (by rw [List.length_map]; omega), j0, by omega, ?_⟩
      have WG := WF.put (((WF.hT.take j.toNat).app (RowsT.one et)).app (WF.hT.drop j.toNat))
      rw [List.map_append, List.map_append, List.map_take, List.map_drop] at WG
      have WG : Wr b l c D (upd (upd HE t (.tup [V.int o, V.int 3, V.bl true])) D (.lst ((ts.map V.ref).take j.toNat ++ [V.ref t] ++ (ts.map V.ref).drop j.toNat))) xs (ts.take j.toNat ++ [t] ++ ts.drop j.toNat) (rows.take j.toNat ++ [(o, 3, true)] ++ rows.drop j.toNat) := WG
      generalize upd (upd HE t (.tup [V.int o, V.int 3, V.bl true])) D (.lst ((ts.map V.ref).take j.toNat ++ [V.ref t] ++ (ts.map V.ref).drop j.toNat)) = HG at WG
      clear WE WF et ht
      refine ⟨_, rfl, by show 1 ≤ sizeLine; decide, fun sb hsb => ?_⟩
      have WH := WG.same (same_new (o := .lst [V.int o]) hsb)
      have esb : upd HG sb (.lst [V.int o]) sb = some (.lst ((some o).toList.map V.int)) := upd_same
      generalize upd HG sb (.lst [V.int o]) = HH at WH esb ⊢
      clear WG hsb
      refine ⟨_, rfl, .inl ⟨rfl, _, SqL.of WH.eD⟩, _, rfl, _, _, rfl, rfl, by show 3 ≤ sizeLine; decide, fun t2 ht2 => ?_⟩
      have SI := same_new (o := .tup [V.int (o + 50), V.int 3, V.bl true]) ht2
      have WI := WH.same SI
      have esb := SI _ _ esb
      have et2 : upd HH t2 (.tup [V.int (o + 50), V.int 3, V.bl true]) t2 = some (.tup (rowV (o + 50, 3, true))) := upd_same
      have WJ := WI.put (WI.hT.snoc et2)
      have nsb : sb ≠ D := fun z => by
        have h1 := WI.eD
        rw [z, h1] at esb
        have e := HO.lst.inj (Option.some.inj esb)
        cases h : (ts.take j.toNat ++ [t] ++ ts.drop j.toNat) with
        | nil => rw [h] at e; cases e
        | cons x xs => rw [h] at e; cases e
      refine ⟨D, _, _, rfl, rfl, WI.eD, small1000 (by rw [List.length_map, List.length_append, List.length_append, List.length_take, List.length_drop]; show _ + 1 + _ ≤ _; omega), ?_⟩
      rw [List.map_append] at WJ
      refine ⟨_, sb, some o, _, _, rfl, WJ, by rw [upd_ne nsb]; exact esb, ?_, ?_, fun q hq => z10 ?_⟩
      · rw [List.append_assoc (rows.take j.toNat ++ [(o, 3, true)])]
        exact strange_at (fun q hq => hN q (List.mem_of_mem_take hq)) (agr_out ho1)
      · rw [List.length_append, List.length_append, List.length_append, List.length_take, List.length_drop]
        show _ + 1 + _ + 1 ≤ 40
        omega
      · simp only [List.mem_append, List.mem_singleton] at hq
        rcases hq with ((hq | rfl) | hq) | rfl
        · have := hN q (List.mem_of_mem_take hq)
          unfold Near at this
          omega
        · show o.natAbs ≤ _
          omega
        · have := hN q (List.mem_of_mem_drop hq)
          unfold Near at this
          omega
        · show (o + 50).natAbs ≤ _
          omega
    rintro σ' HB ⟨v, sb, so, ts, rows, rfl, WB, esb, hso, r40, hsz⟩
    clear W9 esa hN rl
    -- the trials
    refine ⟨_, rfl, D, ts, rows, rfl, WB.eD, WB.hT, by omega, fun TD us HC hTD eTD hU SC => ?_⟩
    have WC := WB.same SC
    have esb := SC _ _ esb
    refine ⟨_, rfl, c, _, rfl, .inl (SqL.of WC.hc), fun PL hPL => ?_⟩
    have SD := same_new (o := .lst (xs.map V.int)) hPL
    have yP : upd HC PL (.lst (xs.map V.int)) PL = some (.lst (xs.map V.int)) := upd_same
    have WD := WC.same SD
    have esb := SD _ _ esb
    have eTD := SD _ _ eTD
    have hU := hU.same SD
    clear WB WC SC hPL hTD
    generalize upd HC PL (.lst (xs.map V.int)) = HD at WD yP esb eTD hU ⊢
    clear SD
    let σ1 : V → Option V → L2.St := fun t u => [some (.ref a), some (.ref b), some (.int tall), some (.ref c), none, some (.ref D), some (.ref sb), v, some (.ref TD), some (.ref PL), some t, u, none, none, none]
    refine ⟨fun σ' H' => ∃ t, σ' = σ1 t none ∧ Same HD H' ∧ (∀ p, so = some p → ∃ z, t = .ref z ∧ H' z = some (.tup [.str "NoPlace", .int p])) ∧ (so = none → ∃ z, t = .ref z ∧ H' z = some (.lst ((wrong xs rows).map V.int))), ?_, ?_⟩
    · refine ⟨_, rfl, _, rfl, TD, PL, us, rows, xs, rfl, eTD, hU, yP, by omega, hsz, fun p hp t H' S ht => ?_, fun hn z H' S hz => ?_⟩
      · rw [hso] at hp
        exact ⟨_, rfl, S, fun p' hp' => ⟨t, rfl, by rw [hp] at hp'; cases hp'; exact ht⟩, fun hn => by rw [hn] at hp; cases hp⟩
      · rw [hso] at hn
        exact ⟨_, rfl, S, fun p' hp' => (by rw [hn] at hp'; cases hp'), fun _ => ⟨z, rfl, hz⟩⟩
    rintro σ' HE ⟨t, rfl, SE, ht1, ht2⟩
    have WE := WD.same SE
    have yP := SE _ _ yP
    have esb := SE _ _ esb
    have eTD := SE _ _ eTD
    have hU := hU.same SE
    clear WD SE
    have zx := shaped_ints xs
    refine ⟨_, rfl, _, rfl, _, _, .lst (SqL.of yP) (dp_ints xs), .lst (SqL.of WE.hc) (dp_ints xs), zx, zx, _, rfl, if_f (by rw [SeqAt.eqv_refl _ (SeqAt.canLay_of_shaped zx)]; rfl) ?_⟩
    have zr := shaped_rows rows
    refine ⟨_, rfl, TD, us, rows, rfl, eTD, hU, by omega, fun RD ts2 HF eRD hR2 SF => ?_⟩
    have WF := WE.same SF
    refine ⟨_, rfl, _, _, .lst (SqL.of eRD) (dp_rows hR2), .lst (SqL.of WF.eD) (dp_rows WF.hT), zr, zr, _, rfl, if_f (by rw [SeqAt.eqv_refl _ (SeqAt.canLay_of_shaped zr)]; rfl) ?_⟩
    have yP := SF _ _ yP
    have esb := SF _ _ esb
    have eTD := SF _ _ eTD
    have hU := hU.same SF
    have ht1 : ∀ p, so = some p → ∃ z, t = .ref z ∧ HF z = some (.tup [.str "NoPlace", .int p]) := fun p hp => let ⟨z, e1, e2⟩ := ht1 p hp; ⟨z, e1, SF _ _ e2⟩
    have ht2 : so = none → ∃ z, t = .ref z ∧ HF z = some (.lst ((wrong xs rows).map V.int)) := fun hn => let ⟨z, e1, e2⟩ := ht2 hn; ⟨z, e1, SF _ _ e2⟩
    clear WE SF eRD hR2
    refine ⟨fun σ' H' => ∃ d, σ' = σ1 t d ∧ Same HF H', ?_, ?_⟩
    · refine ⟨_, rfl, sb, _, rfl, .inl (SqL.of esb), _, _, rfl, rfl, _, rfl, ?_⟩
      cases so with
      | some p =>
        refine if_t rfl ?_
        obtain ⟨z, rfl, ez⟩ := ht1 p rfl
        refine ⟨_, rfl, _, rfl, sb, _, _, _, rfl, rfl, SqL.of esb, rfl, by show 2 ≤ sizeLine; decide, fun t3 ht3 => ?_⟩
        have S3 := same_new (o := .tup [V.str "NoPlace", V.int p]) ht3
        have z := shaped_ei (y := "NoPlace") p (by decide +kernel)
        refine ⟨_, _, .tup (SqT.of (S3 _ _ ez)) (.cons (.str _) (.cons (.int _) .nil)), .tup (SqT.of upd_same) (.cons (.str _) (.cons (.int _) .nil)), z, z, _, rfl, if_f (by rw [SeqAt.eqv_refl _ (SeqAt.canLay_of_shaped z)]; rfl) ?_⟩
        exact ⟨_, rfl, S3⟩
      | none =>
        refine if_f rfl ?_
        obtain ⟨z, rfl, ez⟩ := ht2 rfl
        have hin := of_strange hso
        have tl := WF.hT.1
        refine ⟨_, rfl, D, _, rfl, .inl (SqL.of WF.eD), _, rfl, by rw [List.length_map]; omega, by rw [List.length_map]; omega, fun Wd hWd => ?_⟩
        refine lc_range (lo := 0) (n := (((ts.map V.ref).length : Nat) : Int).toNat) (fun j H' => LcP Wd HF (fun i : Nat => if (rows[i]?.bind (agr3 xs)) = some false then some (V.int (i : Nat)) else none) j H') (LcP.start hWd) ?_ ?_
        · intro j H' hj p
          have hj : j < ts.length := by simpa using hj
          obtain ⟨t4, ht4⟩ : ∃ t, ts[j]? = some t := ⟨_, List.getElem?_eq_getElem hj⟩
          obtain ⟨q, hq⟩ : ∃ q, rows[j]? = some q := ⟨_, List.getElem?_eq_getElem (by omega)⟩
          obtain ⟨q0, q1⟩ := hin q (List.mem_of_getElem? hq)
          obtain ⟨z4, hz4, ag⟩ := agr_some (r := q.2.2) (h := q.2.1) q0 q1
          have WP := WF.same p.2
          have et4 := WP.hT.2 j t4 q ht4 hq
          have a4 : atI (ts.map V.ref) (0 + (j : Int)) = some (V.ref t4) := by
            rw [Int.zero_add]
            exact atI_nat (by rw [List.getElem?_map, ht4]; rfl)
          have az : atI (xs.map V.int) q.1 = some (V.int z4) := by
            obtain ⟨m, hm⟩ := Int.eq_ofNat_of_zero_le q0
            rw [hm] at hz4 ⊢
            exact atI_nat (by rw [List.getElem?_map]; simp at hz4; rw [hz4]; rfl)
          refine ⟨rfl, _, rfl, _, rfl, _, rfl, D, _, _, _, rfl, rfl, SqL.of WP.eD, a4, t4, _, _, _, rfl, rfl, SqT.of et4, rfl, c, _, _, _, rfl, rfl, SqL.of WP.hc, az, ?_⟩
          refine ⟨_, rfl, _, rfl, D, _, _, _, rfl, rfl, SqL.of WP.eD, a4, t4, _, _, _, rfl, rfl, SqT.of et4, rfl, _, _, rfl, rfl, ?_⟩
          refine ⟨_, rfl, _, rfl, D, _, _, _, rfl, rfl, SqL.of WP.eD, a4, t4, _, _, _, rfl, rfl, SqT.of et4, rfl, rfl, _, rfl, ?_⟩
          have eb : rows[j]?.bind (agr3 xs) = some (if q.2.2 = true then decide (z4 ≤ q.2.1) else decide (q.2.1 < z4)) := by
            rw [hq]
            exact ag
          by_cases cw : (if q.2.2 = true then decide (z4 ≤ q.2.1) else decide (q.2.1 < z4)) = false
          · rw [cw] at eb
            refine if_t ?_ ⟨_, rfl, ?_⟩
            · cases h : q.2.2 <;> rw [h] at cw <;> simp at cw <;> simp <;> omega
            obtain ⟨acc, a1, a2, a3⟩ := p.push hWd same_rfl (y := V.int (j : Nat)) (by rw [eb]; rfl) (by omega)
            rw [Int.zero_add]
            exact ⟨acc, a1, a2, a3⟩
          · have cw : (if q.2.2 = true then decide (z4 ≤ q.2.1) else decide (q.2.1 < z4)) = true := (Bool.not_eq_false _).mp cw
            rw [cw] at eb
            refine if_f ?_ (p.skip same_rfl (by rw [eb]; rfl))
            cases h : q.2.2 <;> rw [h] at cw <;> simp at cw <;> simp <;> omega
        · rintro H' ⟨g1, S1⟩
          have ew : H' Wd = some (.lst ((wrong xs rows).map V.int)) := by
            rw [g1]
            have e1 : (((ts.map V.ref).length : Nat) : Int).toNat = rows.length := by rw [List.length_map]; omega
            rw [e1]
            unfold wrong
            rw [List.map_filterMap]
            refine congrArg some (congrArg HO.lst (congrArg (fun f => List.filterMap f _) ?_))
            funext i
            split <;> rfl
          have hwl : (wrong xs rows).length ≤ 900 := by
            unfold wrong
            exact Nat.le_trans (List.length_filterMap_le _ _) (by rw [List.length_range]; omega)
          refine ⟨_, rfl, _, rfl, z, Wd, _, rfl, S1 _ _ ez, ew, hwl, true, rfl, if_f rfl ?_⟩
          have eTD1 := S1 _ _ eTD
          refine ⟨_, rfl, TD, _, rfl, .inl ⟨SqL.of eTD1, fun tt htt => ?_⟩⟩
          have S2 := same_new (o := .tup (us.map V.ref)) htt
          refine ⟨_, rfl, tt, PL, us, rows, xs, rfl, .inr (SqT.of upd_same), (hU.same S1).same S2, SqL.of (S2 _ _ (S1 _ _ yP)), by omega, hsz, fun p hp => (by rw [hso] at hp; cases hp), fun _ Wm H2 S3 eWm _ => ?_⟩
          refine ⟨_, rfl, Wm, Wd, _, rfl, eWm, S3 _ _ (S2 _ _ ew), hwl, true, rfl, if_f rfl ?_⟩
          exact ⟨_, rfl, same_tr S1 (same_tr S2 S3)⟩
    rintro σ' HG ⟨d, rfl, SG⟩
    have WG := WF.same SG
    have yP := SG _ _ yP
    clear WF SG ht1 ht2 esb eTD hU
    -- pinned
    refine ⟨_, rfl, _, rfl, c, _, rfl, .inl (SqL.of WG.hc), b, l, _, rfl, WG.B, by rw [List.length_map]; omega, size_fit (by rw [List.length_map]; omega) (by rw [List.length_map]; omega), fun p HH p0 p1 BH kH => ?_⟩
    rw [List.length_map] at p1
    have WH := WG.draw BH (SameB.of kH)
    have yP := SameB.of kH _ _ (WG.B.neNs yP) yP
    clear WG BH kH
    obtain ⟨z, hz⟩ : ∃ z, xs[p.toNat]? = some z := ⟨_, List.getElem?_eq_getElem (by omega)⟩
    have az : atI (xs.map V.int) p = some (V.int z) := by
      obtain ⟨m, hm⟩ := Int.eq_ofNat_of_zero_le p0
      rw [hm] at hz ⊢
      exact atI_nat (by rw [List.getElem?_map]; simp at hz; rw [hz]; rfl)
    have zb := y3 z (List.mem_of_getElem? hz)
    refine ⟨_, rfl, _, rfl, _, rfl, c, _, _, _, rfl, rfl, SqL.of WH.hc, az, p, z, rfl, fun PD x y HI SI ePD hX hY => ?_⟩
    have WI := WH.same SI
    have yP := SI _ _ yP
    clear WH SI
    have hPs : ∀ {H' : Hp}, Same HI H' → TrisAt CT H' [x, y] [(p, z, true), (p, z - 1, false)] := fun S => ⟨rfl, fun i t q e1 e2 => by
      match i with
      | 0 => cases e1; cases e2; exact hX.same S
      | 1 => cases e1; cases e2; exact hY.same S
      | i + 2 => cases e1⟩
    refine ⟨_, rfl, V.ref PD, .ty "list", .type "list", .type "list", true, rfl, .ty _, .base (.lst ePD), by rfl, _, rfl, if_f rfl ?_⟩
    let R2 : List Tr := [(p, z, true), (p, z - 1, false)]
    have zr2 := shaped_rows R2
    refine ⟨_, rfl, PD, [x, y], R2, rfl, ePD, hPs same_rfl, (by show 2 ≤ 900; decide), fun RD ts2 HJ eRD hR2 SJ => ?_⟩
    have WJ := WI.same SJ
    refine ⟨_, rfl, _, rfl, _, rfl, c, _, _, _, rfl, rfl, SqL.of WJ.hc, az, by show 3 ≤ sizeLine; decide, fun q1 hq1 => ?_⟩
    have S1 := same_new (o := .tup [V.int p, V.int z, V.bl true]) hq1
    have WK := WJ.same S1
    refine ⟨_, rfl, _, rfl, _, rfl, c, _, _, _, rfl, rfl, SqL.of WK.hc, az, _, _, rfl, rfl, by show 3 ≤ sizeLine; decide, fun q2 hq2 => ?_⟩
    have S2 := same_new (o := .tup [V.int p, V.int (z - 1), V.bl false]) hq2
    refine ⟨by show 2 ≤ sizeLine; decide, fun L3 hL3 => ?_⟩
    have S3 := same_new (o := .lst [V.ref q1, V.ref q2]) hL3
    have hq : RowsT _ [q1, q2] R2 := ⟨rfl, fun i t q e1 e2 => by
      match i with
      | 0 => cases e1; cases e2; exact S3 _ _ (S2 _ _ upd_same)
      | 1 => cases e1; cases e2; exact S3 _ _ upd_same
      | i + 2 => cases e1⟩
    have S4 := same_tr S1 (same_tr S2 S3)
    refine ⟨_, _, .lst (SqL.of (S4 _ _ eRD)) (dp_rows (hR2.same S4)), .lst (SqL.of (xs := [q1, q2].map V.ref) upd_same) (dp_rows hq), zr2, zr2, _, rfl, if_f (by rw [SeqAt.eqv_refl _ (SeqAt.canLay_of_shaped zr2)]; rfl) ?_⟩
    have S5 := same_tr SJ S4
    have WL := WI.same S5
    have yP := S5 _ _ yP
    have ePD := S5 _ _ ePD
    have hPs2 := fun {H' : Hp} (S : Same _ H') => hPs (H' := H') (same_tr S5 S)
    clear WI WJ WK S1 S2 S3 S4 eRD hR2 hq hL3 hq1 hq2
    generalize upd (upd (upd HJ q1 (.tup [V.int p, V.int z, V.bl true])) q2 (.tup [V.int p, V.int (z - 1), V.bl false])) L3 (.lst [V.ref q1, V.ref q2]) = HL at *
    clear SJ S5
    -- near
    refine ⟨_, rfl, c, _, rfl, .inl (SqL.of WL.hc), fun NL hNL => ?_⟩
    have SM := same_new (o := .lst (xs.map V.int)) hNL
    have eNL : upd HL NL (.lst (xs.map V.int)) NL = some (.lst (xs.map V.int)) := upd_same
    have nNP : NL ≠ PL := fun z => by rw [z, yP] at hNL; cases hNL
    have WM := WL.same SM
    have yP := SM _ _ yP
    have ePD := SM _ _ ePD
    have hPs3 := fun {H' : Hp} (S : Same _ H') => hPs2 (H' := H') (same_tr SM S)
    have nNb : NL ≠ b := Ne.symm (WL.B.free hNL).1
    have nNl : NL ≠ l := Ne.symm (WL.B.free hNL).2
    clear WL hPs2
    generalize upd HL NL (.lst (xs.map V.int)) = HM at *
    refine ⟨_, rfl, _, rfl, NL, _, _, _, rfl, rfl, SqL.of eNL, az, _, _, rfl, rfl, _, rfl, b, l, _, rfl, WM.B, by decide, by decide, fun g HN g0 g1 BN kN => ?_⟩
    have sN := SameB.of kN
    have WN := WM.draw BN sN
    have yP := sN _ _ (WM.B.neNs yP) yP
    have eNL := sN _ _ nNb eNL
    have ePD' := sN _ _ (WM.B.neRs (xs := [x, y]) ePD) ePD
    have hPs4 : TrisAt CT HN [x, y] R2 := by
      have z0 := hPs3 same_rfl
      exact ⟨z0.1, fun i t q e1 e2 => Tri.sameB (z0.2 i t q e1 e2) WM.B sN⟩
    have hix : ixN (xs.map V.int).length p = some p.toNat := by
      unfold ixN
      rw [if_pos p0, if_pos (by rw [List.length_map]; exact p1)]
    refine ⟨_, _, rfl, rfl, Sz.mul (by show (2 : Int).natAbs < _; decide +kernel) (Nat.lt_of_le_of_lt (show g.natAbs ≤ 10 by omega) (by decide +kernel)), _, _, rfl, rfl, _, rfl, _, rfl, NL, _, _, p.toNat, rfl, rfl, eNL, hix, ?_⟩
    have eset : (xs.map V.int).set p.toNat (V.int (z + 1 - 2 * g)) = (xs.set p.toNat (z + 1 - 2 * g)).map V.int := by
      rw [List.map_set]
    have kS : ∀ {o : HO} {e : Addr} {ob : HO}, HN e = some ob → e ≠ NL → upd HN NL o e = some ob := fun h n => by rw [upd_ne n]; exact h
    have yP := kS (o := .lst ((xs.map V.int).set p.toNat (V.int (z + 1 - 2 * g)))) yP (Ne.symm nNP)
    have nPN : PD ≠ NL := fun zz => by
      rw [zz, eNL] at ePD'
      have e := HO.lst.inj (Option.some.inj ePD')
      cases xs with
      | nil => cases e
      | cons n ns => cases e
    have ePD' := kS (o := .lst ((xs.map V.int).set p.toNat (V.int (z + 1 - 2 * g)))) ePD' nPN
    have hPs5 : TrisAt CT (upd HN NL (.lst ((xs.map V.int).set p.toNat (V.int (z + 1 - 2 * g))))) [x, y] R2 := hPs4.keep fun e C dx fs h => kS h (fun zz => by rw [zz, eNL] at h; cases h)
    have eN2 : upd HN NL (.lst ((xs.map V.int).set p.toNat (V.int (z + 1 - 2 * g)))) NL = some (.lst ((xs.set p.toNat (z + 1 - 2 * g)).map V.int)) := by rw [upd_same, eset]
    generalize upd HN NL (.lst ((xs.map V.int).set p.toNat (V.int (z + 1 - 2 * g)))) = HO_ at *
    have z10 : ∀ {x : Int}, x.natAbs ≤ 10 ^ 42 → x.natAbs < 2 ^ 1000 := fun {x} h1 => Nat.lt_of_le_of_lt h1 (by decide +kernel)
    have hsz2 : ∀ q ∈ R2, q.1.natAbs < 2 ^ 1000 := fun q hq => by
      have e : q.1 = p := by
        rcases List.mem_cons.mp hq with rfl | hq
        · rfl
        · rw [List.mem_singleton] at hq
          subst hq
          rfl
      rw [e]
      exact z10 (by omega)
    have near : ∀ ys : List Int, ys.length = xs.length → strange ys R2 = none := fun ys hl => strange_none fun q hq => by
      rcases List.mem_cons.mp hq with rfl | hq
      · exact ⟨p0, by rw [hl]; exact p1, by show z.natAbs ≤ _; omega⟩
      · rw [List.mem_singleton] at hq
        subst hq
        exact ⟨p0, by rw [hl]; exact p1, by show (z - 1).natAbs ≤ _; omega⟩
    refine ⟨_, rfl, _, rfl, PD, PL, [x, y], R2, xs, rfl, .inl (SqL.of ePD'), hPs5, SqL.of yP, (by show 2 ≤ 900; decide), hsz2, fun p' hp => (by rw [near xs rfl] at hp; cases hp), fun _ W1 HP SP eW1 _ => ?_⟩
    rw [wrong_pin p0 hz] at eW1
    refine ⟨by show 0 ≤ sizeLine; decide, fun L4 hL4 => ?_⟩
    have SQ := same_new (o := .lst []) hL4
    have ze := shaped_ints []
    refine ⟨_, _, .lst (SqL.of (SQ _ _ eW1)) .nil, .lst (SqL.of upd_same) .nil, ze, ze, _, rfl, if_t (SeqAt.eqv_refl _ (SeqAt.canLay_of_shaped ze)) ?_⟩
    have ST := same_tr SP SQ
    refine ⟨_, rfl, _, rfl, PD, NL, [x, y], R2, xs.set p.toNat (z + 1 - 2 * g), rfl, .inl (SqL.of (ST _ _ ePD')), hPs5.same ST, SqL.of (ST _ _ eN2), (by show 2 ≤ 900; decide), hsz2, fun p' hp => (by rw [near _ (by rw [List.length_set])] at hp; cases hp), fun _ W2 HR SR eW2 _ => ?_⟩
    refine ⟨W2, _, rfl, .inl (SqL.of eW2), rfl, ?_⟩
    have hz2 : (xs.set p.toNat (z + 1 - 2 * g))[p.toNat]? = some (z + 1 - 2 * g) := by
      rw [List.getElem?_set_self (by omega)]
    have hl1 : (wrong (xs.set p.toNat (z + 1 - 2 * g)) R2).length = 1 := wrong_near p0 hz2 (by omega)
    rw [List.length_map, hl1]
    exact k _
end
end Law

namespace Law
open PySem PySem.Spec PyProof.Rows L2 Sup NdefX
abbrev sEP : Stmt := inClass (top 3) 0
theorem all_mk {P : Program} {w : World} {K : PySem.W.Frag} {h : Heap} {mg : Str → Option Value} {fa : Addr} (X : K.In h) (G : h.Ns mainGlobals mg) (hfa : mg "law" = some (.ref fa)) (htop : (P.main.scope.names.lookup ("super" : Str)).isSome = false)
    {fTi : Addr} {odTi anTi : Option Addr} {slTi : Array (Option Value)} {ocTi kVTi dcTi pmTi cdTi ctTi : Value}
    {fTa : Addr} {odTa anTa : Option Addr} {slTa : Array (Option Value)} {ocTa kVTa dcTa pmTa cdTa ctTa : Value}
    {fM : Addr} {odM anM : Option Addr} {slM : Array (Option Value)} {ocM kVM dcM pmM cdM ctM : Value}
    {fPi : Addr} {odPi anPi : Option Addr} {slPi : Array (Option Value)} {ocPi kVPi dcPi pmPi cdPi ctPi : Value}
    {fB : Addr} {odB anB : Option Addr} {slB : Array (Option Value)} {ocB kVB dcB pmB cdB ctB : Value}
    {fT : Addr} {odT anT : Option Addr} {slT : Array (Option Value)} {ocT kVT dcT pmT cdT ctT : Value}
    {fNm : Addr} {odNm anNm : Option Addr} {slNm : Array (Option Value)} {ocNm kVNm dcNm pmNm cdNm ctNm : Value}
    {fTs : Addr} {odTs anTs : Option Addr} {slTs : Array (Option Value)} {ocTs kVTs dcTs pmTs cdTs ctTs : Value}
    {fTr : Addr} {odTr anTr : Option Addr} {slTr : Array (Option Value)} {ocTr kVTr dcTr pmTr cdTr ctTr : Value}
    {fOu : Addr} {odOu anOu : Option Addr} {slOu : Array (Option Value)} {ocOu kVOu dcOu pmOu cdOu ctOu : Value}
    {fRw : Addr} {odRw anRw : Option Addr} {slRw : Array (Option Value)} {ocRw kVRw dcRw pmRw cdRw ctRw : Value}
    {fL : Addr} {odL anL : Option Addr} {slL : Array (Option Value)} {ocL kVL dcL pmL cdL ctL : Value}
    {CEP BEP fiEP cdEP ccEP NEP : Addr} {nmEP qEP : Str} {bsEP : List Value} {snEP : List Str} {subEP : List Value} {abEP : Bool} {colEP : Option Bool} {ddEP : Option Addr} {m0EP m1EP m2EP m3EP m5EP : Option Value}
    {odEP anEP dkEP deEP : Option Addr} {slEP skEP seEP : Array (Option Value)} {ocEP kVEP dcEP pmEP ctEP ckEP ceEP : Value} {vkEP : Array Value} {flEP : Str} {tfEP : Tok}
    {CTrial : Addr}
    (aCT : PySem.W.nsIn K mainGlobals "Trial" = some (some (.ref CTrial)))
    (aTi : PySem.W.findIn K (.ref CTrial) "__init__" = some (some (.ref fTi)))
    (lTi : K.lookup fTi = some ⟨ocTi, odTi, .func (PySem.W.fnOf "__init__" "Trial.__init__" (defArgs sTini) (defBody sTini) (defScope sTini) .none kVTi dcTi pmTi anTi cdTi ctTi), slTi⟩)
    (cTi : PySem.W.codeIn K cdTi "Trial.__init__" = true)
    (kTi : PySem.W.keepIn K (.ref fTi) = true)
    (iTi : PySem.W.isFn K (.ref fTi) = true)
    (aTa : PySem.W.findIn K (.ref CTrial) "agrees" = some (some (.ref fTa)))
    (lTa : K.lookup fTa = some ⟨ocTa, odTa, .func (PySem.W.fnOf "agrees" "Trial.agrees" (defArgs sAgr) (defBody sAgr) (defScope sAgr) .none kVTa dcTa pmTa anTa cdTa ctTa), slTa⟩)
    (cTa : PySem.W.codeIn K cdTa "Trial.agrees" = true)
    (kTa : PySem.W.keepIn K (.ref fTa) = true)
    (iTa : PySem.W.isFn K (.ref fTa) = true)
    (aM : PySem.W.nsIn K mainGlobals "misread_numbers" = some (some (.ref fM)))
    (lM : K.lookup fM = some ⟨ocM, odM, .func (PySem.W.fnOf "misread_numbers" "misread_numbers" (defArgs sMis) (defBody sMis) (defScope sMis) .none kVM dcM pmM anM cdM ctM), slM⟩)
    (cM : PySem.W.codeIn K cdM "misread_numbers" = true)
    (kM : PySem.W.keepIn K (.ref fM) = true)
    (aPi : PySem.W.nsIn K mainGlobals "pinned" = some (some (.ref fPi)))
    (lPi : K.lookup fPi = some ⟨ocPi, odPi, .func (PySem.W.fnOf "pinned" "pinned" (defArgs sPin) (defBody sPin) (defScope sPin) .none kVPi dcPi pmPi anPi cdPi ctPi), slPi⟩)
    (cPi : PySem.W.codeIn K cdPi "pinned" = true)
    (kPi : PySem.W.keepIn K (.ref fPi) = true)
    (aB : PySem.W.nsIn K mainGlobals "_law_box" = some (some (.ref fB)))
    (lB : K.lookup fB = some ⟨ocB, odB, .func (PySem.W.fnOf "_law_box" "_law_box" (defArgs sBox) (defBody sBox) (defScope sBox) .none kVB dcB pmB anB cdB ctB), slB⟩)
    (cB : PySem.W.codeIn K cdB "_law_box" = true)
    (kB : PySem.W.keepIn K (.ref fB) = true)
    (aT : PySem.W.nsIn K mainGlobals "_law_take" = some (some (.ref fT)))
    (lT : K.lookup fT = some ⟨ocT, odT, .func (PySem.W.fnOf "_law_take" "_law_take" (defArgs sTake) (defBody sTake) (defScope sTake) .none kVT dcT pmT anT cdT ctT), slT⟩)
    (cT : PySem.W.codeIn K cdT "_law_take" = true)
    (kT : PySem.W.keepIn K (.ref fT) = true)
    (aNm : PySem.W.nsIn K mainGlobals "_law_numbers" = some (some (.ref fNm)))
    (lNm : K.lookup fNm = some ⟨ocNm, odNm, .func (PySem.W.fnOf "_law_numbers" "_law_numbers" (defArgs sNms) (defBody sNms) (defScope sNms) .none kVNm dcNm pmNm anNm cdNm ctNm), slNm⟩)
    (cNm : PySem.W.codeIn K cdNm "_law_numbers" = true)
    (kNm : PySem.W.keepIn K (.ref fNm) = true)
    (aTs : PySem.W.nsIn K mainGlobals "_law_tries" = some (some (.ref fTs)))
    (lTs : K.lookup fTs = some ⟨ocTs, odTs, .func (PySem.W.fnOf "_law_tries" "_law_tries" (defArgs sTrs) (defBody sTrs) (defScope sTrs) .none kVTs dcTs pmTs anTs cdTs ctTs), slTs⟩)
    (cTs : PySem.W.codeIn K cdTs "_law_tries" = true)
    (kTs : PySem.W.keepIn K (.ref fTs) = true)
    (aTr : PySem.W.nsIn K mainGlobals "_law_trials" = some (some (.ref fTr)))
    (lTr : K.lookup fTr = some ⟨ocTr, odTr, .func (PySem.W.fnOf "_law_trials" "_law_trials" (defArgs sTri) (defBody sTri) (defScope sTri) .none kVTr dcTr pmTr anTr cdTr ctTr), slTr⟩)
    (cTr : PySem.W.codeIn K cdTr "_law_trials" = true)
    (kTr : PySem.W.keepIn K (.ref fTr) = true)
    (aOu : PySem.W.nsIn K mainGlobals "_law_outcome" = some (some (.ref fOu)))
    (lOu : K.lookup fOu = some ⟨ocOu, odOu, .func (PySem.W.fnOf "_law_outcome" "_law_outcome" (defArgs sOut) (defBody sOut) (defScope sOut) .none kVOu dcOu pmOu anOu cdOu ctOu), slOu⟩)
    (cOu : PySem.W.codeIn K cdOu "_law_outcome" = true)
    (kOu : PySem.W.keepIn K (.ref fOu) = true)
    (aRw : PySem.W.nsIn K mainGlobals "_law_rows" = some (some (.ref fRw)))
    (lRw : K.lookup fRw = some ⟨ocRw, odRw, .func (PySem.W.fnOf "_law_rows" "_law_rows" (defArgs sRws) (defBody sRws) (defScope sRws) .none kVRw dcRw pmRw anRw cdRw ctRw), slRw⟩)
    (cRw : PySem.W.codeIn K cdRw "_law_rows" = true)
    (kRw : PySem.W.keepIn K (.ref fRw) = true)
    (aL : PySem.W.nsIn K mainGlobals "law" = some (some (.ref fL)))
    (lL : K.lookup fL = some ⟨ocL, odL, .func (PySem.W.fnOf "law" "law" (defArgs sLaw) (defBody sLaw) (defScope sLaw) .none kVL dcL pmL anL cdL ctL), slL⟩)
    (cL : PySem.W.codeIn K cdL "law" = true)
    (kL : PySem.W.keepIn K (.ref fL) = true)
    (opq : PySem.W.nsIn K cStatics "thirdparty.any" = some none)
    (nsup : PySem.W.nsIn K mainGlobals "super" = some none)
    (aEP : PySem.W.nsIn K mainGlobals "NoPlace" = some (some (.ref CEP)))
    (xEP : K.lookup CEP = some (excClassObj nmEP qEP CEP NEP bsEP [.ref BEP, .type "ValueError", .type "Exception", .type "BaseException", .type "object"] true snEP subEP abEP colEP ddEP m0EP m1EP m2EP m3EP m5EP "ValueError.__new__"))
    (saEP : PySem.W.findIn K (.ref CEP) "__setattr__" = some (some (.builtin "object.__setattr__")))
    (gaEP : PySem.W.findIn K (.ref CEP) "__getattribute__" = some (some (.builtin "BaseException.__getattribute__")))
    (ggEP : PySem.W.findIn K (.ref CEP) "__getattr__" = some none)
    (nbEP : PySem.W.findIn K (.ref CEP) "place" = some none)
    (iEP : PySem.W.findIn K (.ref CEP) "__init__" = some (some (.ref fiEP)))
    (tEP : PySem.W.typeIn K (.ref fiEP) = some (.type "function"))
    (lEP : K.lookup fiEP = some ⟨ocEP, odEP, .func (PySem.W.fnX "__init__" "NoPlace.__init__" (defArgs sEP) (defBody sEP) (defScope sEP) [("__class__", ccEP)] .none kVEP dcEP pmEP anEP (.ref cdEP) ctEP), slEP⟩)
    (coEP : PySem.W.codeIn K (.ref cdEP) "NoPlace.__init__" = true)
    (lkEP : K.lookup cdEP = some ⟨ckEP, dkEP, .fields vkEP, skEP⟩)
    (vkEPx : vkEP[2]? = some (.str flEP tfEP))
    (feEP : ((P.main.file : Str) == flEP) = true)
    (leEP : K.lookup ccEP = some ⟨ceEP, deEP, .cell (some (.ref CEP)), seEP⟩)
    (mrEP : PySem.W.mroIn K CEP (.ref CEP) = some true)
    (upEP : PySem.W.ks_superIn K CEP CEP "__init__" = some (some (.builtin "ValueError.__init__")))
    (svEP : PySem.W.subIn K (.ref CEP) (.type "ValueError") = some true)
    (kcEP : PySem.W.keepIn K (.ref CEP) = true)
    (ebEP : PySem.W.subIn K (.ref CEP) (.type "BaseException") = some true)
    (tyEP : PySem.W.typeIn K (.ref CEP) = some (.type "type"))
    (hdEP : PySem.W.hasDictIn K CEP = true)
    (ssEP : PySem.W.subIn K (.ref CEP) (.ref CEP) = some true)
    (n_len : PySem.W.nsIn K mainGlobals "len" = some none)
    (n_int : PySem.W.nsIn K mainGlobals "int" = some none)
    (n_bool : PySem.W.nsIn K mainGlobals "bool" = some none)
    (n_isinstance : PySem.W.nsIn K mainGlobals "isinstance" = some none)
    (n_range : PySem.W.nsIn K mainGlobals "range" = some none)
    (n_list : PySem.W.nsIn K mainGlobals "list" = some none)
    (n_tuple : PySem.W.nsIn K mainGlobals "tuple" = some none)
    (n_enumerate : PySem.W.nsIn K mainGlobals "enumerate" = some none)
    (xhn : PySem.W.specialIn K (.builtin "object.__class__") "__get__" = some (some (.builtin "getset_descriptor.__get__")))
    (xht : PySem.W.takesIn K (.builtin "object.__class__") = some true)
    (tPG : PySem.W.plainGet K CTrial Str.empty = true)
    (tHD : PySem.W.hasDictIn K CTrial = true)
    (tPO : PySem.W.plainOver K CTrial = true)
    (tSA : PySem.W.findIn K (.ref CTrial) "__setattr__" = some (some (.builtin "object.__setattr__")))
    (tMK : PySem.W.makesIn K CTrial = true)
    (tKP : PySem.W.keepIn K (.ref CTrial) = true)
    (tHA : PySem.W.findIn K (.ref CTrial) "__class__" = some (some (.builtin "object.__class__")))
    (tHM : PySem.W.mroIn K CTrial (.type "object") = some true)
    (tF0 : PySem.W.findIn K (.ref CTrial) "place" = some none)
    (tF1 : PySem.W.findIn K (.ref CTrial) "height" = some none)
    (tF2 : PySem.W.findIn K (.ref CTrial) "reached" = some none) :
    ∃ fd : FuncData, (∀ (s : Shared) (v : Value), BindsTo s fd ⟨[v], []⟩ [("_law_script", v)]) ∧ ∀ base : Heap, K.In base → base.Ns mainGlobals mg → FnOk P w K mg base CX0 7 fa fd ["_law_script"] (spLaw K) := by
  have e := hfa.symm.trans (PySem.W.mg_of X G aL)
  cases e
  have FTi := fun_mk (st := sTini) lTi cTi kTi
  have bTi := FTi.binds (ps := ["self", "place", "height", "reached"]) fun _ _ _ _ _ _ us hl => match us, hl with | [_, _, _, _], _ => rfl
  have FTa := fun_mk (st := sAgr) lTa cTa kTa
  have bTa := FTa.binds (ps := ["self", "heights"]) fun _ _ _ _ _ _ us hl => match us, hl with | [_, _], _ => rfl
  have FM := fun_mk (st := sMis) lM cM kM
  have bM := FM.binds (ps := ["trials", "heights"]) fun _ _ _ _ _ _ us hl => match us, hl with | [_, _], _ => rfl
  have FPi := fun_mk (st := sPin) lPi cPi kPi
  have bPi := FPi.binds (ps := ["place", "height"]) fun _ _ _ _ _ _ us hl => match us, hl with | [_, _], _ => rfl
  have FB := fun_mk (st := sBox) lB cB kB
  have bB := FB.binds (ps := ["_law_script"]) fun _ _ _ _ _ _ us hl => match us, hl with | [_], _ => rfl
  have FT := fun_mk (st := sTake) lT cT kT
  have bT := FT.binds (ps := ["_law_box_here", "_law_size"]) fun _ _ _ _ _ _ us hl => match us, hl with | [_, _], _ => rfl
  have FNm := fun_mk (st := sNms) lNm cNm kNm
  have bNm := FNm.binds (ps := ["_law_row", "_law_due"]) fun _ _ _ _ _ _ us hl => match us, hl with | [_, _], _ => rfl
  have FTs := fun_mk (st := sTrs) lTs cTs kTs
  have bTs := FTs.binds (ps := ["_law_box_here", "_law_truth", "_law_count", "_law_tall"]) fun _ _ _ _ _ _ us hl => match us, hl with | [_, _, _, _], _ => rfl
  have FTr := fun_mk (st := sTri) lTr cTr kTr
  have bTr := FTr.binds (ps := ["_law_rows_here"]) fun _ _ _ _ _ _ us hl => match us, hl with | [_], _ => rfl
  have FOu := fun_mk (st := sOut) lOu cOu kOu
  have bOu := FOu.binds (ps := ["_law_trials_here", "_law_heights"]) fun _ _ _ _ _ _ us hl => match us, hl with | [_, _], _ => rfl
  have FRw := fun_mk (st := sRws) lRw cRw kRw
  have bRw := FRw.binds (ps := ["_law_trials_here"]) fun _ _ _ _ _ _ us hl => match us, hl with | [_], _ => rfl
  have FL := fun_mk (st := sLaw) lL cL kL
  have bL := FL.binds (ps := ["_law_script"]) fun _ _ _ _ _ _ us hl => match us, hl with | [_], _ => rfl
  have OEP : OexC K CEP := ⟨⟨nmEP, qEP, NEP, bsEP, _, snEP, subEP, abEP, colEP, ddEP, m0EP, m1EP, m2EP, m3EP, m5EP, xEP, by rfl⟩, saEP, ebEP, tyEP, kcEP⟩
  have TEP : ErrTxt P K mg CEP fiEP cdEP ccEP "NoPlace.__init__" sEP := {
    oex := OEP
    iC := iEP
    tI := tEP
    fn := ⟨_, _, _, _, _, _, _, _, lEP⟩
    code := coEP
    file := ⟨_, vkEP, flEP, tfEP, lkEP, rfl, vkEPx, feEP⟩
    cell := ⟨_, leEP, rfl⟩
    self := mrEP
    opaque_ := opq
    up := upEP
    isVE := svEP
    top := htop
    noSup := PySem.W.mg_none_of X G nsup }
  have REP : ∀ base, ErrOk P w K mg base "NoPlace" CEP "place" okInt := fun base => by
    obtain ⟨fd, hfd, hb⟩ := err_int (w := w) (base := base) TEP rfl rfl (nscope_by (by decide +kernel)) (fun _ _ _ _ _ _ _ us hl => match us, hl with | [_, _], _ => rfl) rfl rfl rfl (by decide) (by decide) (by decide) nbEP
    exact ⟨OEP, ⟨gaEP, ggEP, ebEP, hdEP⟩, PySem.W.mg_of X G aEP, nbEP, PySem.W.exm_ref ebEP hdEP tyEP ssEP, ⟨_, fd, iEP, tEP, hfd, hb⟩⟩
  exact ⟨PySem.W.fnOf "law" "law" (defArgs sLaw) (defBody sLaw) (defScope sLaw) .none kVL dcL pmL anL cdL ctL, fun s v => .of_eq rfl, fun base _ _ => by
    have clT : Cls K CTrial := ⟨tPG, tHD, tPO, tSA⟩
    have bt : BoxTxt K mg := ⟨PySem.W.mg_none_of X G n_len, PySem.W.mg_none_of X G n_int⟩
    have TT : TriTxt K mg CTrial := { tri := PySem.W.mg_of X G aCT, isi := PySem.W.mg_none_of X G n_isinstance, b_len := PySem.W.mg_none_of X G n_len, cl := clT, nP := tF0, nH := tF1, nR := tF2, ha := tHA, hn := xhn, ht := xht, hm := tHM }
    have MT : MiTxt K mg CTrial := { tri := PySem.W.mg_of X G aCT, b_enum := PySem.W.mg_none_of X G n_enumerate, cl := clT }
    have MKT : Mk K CTrial fTi := ⟨tMK, aTi, iTi, tKP⟩
    have GTi := Own.fnr0 (ok_tini (P := P) (w := w) (base := base) FTi TT) bTi
    have GTa := Own.fnr0 (ok_agr (P := P) (w := w) (base := base) FTa (REP base) TT) bTa
    have MA : Meth K CTrial "agrees" fTa := ⟨aTa, iTa, kTa⟩
    have GM := ok_mis (P := P) (w := w) (base := base) FM GTa MA MT
    have GPi := ok_pin (P := P) (w := w) (base := base) FPi MKT GTi MT
    have LT : LTxt mg CTrial fT fM := { tri := PySem.W.mg_of X G aCT, take := PySem.W.mg_of X G aT, mis := PySem.W.mg_of X G aM, b_isinstance := PySem.W.mg_none_of X G n_isinstance, b_list := PySem.W.mg_none_of X G n_list, b_int := PySem.W.mg_none_of X G n_int, b_bool := PySem.W.mg_none_of X G n_bool, b_len := PySem.W.mg_none_of X G n_len, b_range := PySem.W.mg_none_of X G n_range }
    have GB : FnOk P w K mg base CX0 1 fB _ ["_law_script"] (spBox K) := ok_box FB bt
    have GT : FnOk P w K mg base CX0 1 fT _ ["_law_box_here", "_law_size"] spTake := ok_take FT bt
    exact ok_law FL { box := PySem.W.mg_of X G aB, take := PySem.W.mg_of X G aT, trs := PySem.W.mg_of X G aTs, trl := PySem.W.mg_of X G aTr, rws := PySem.W.mg_of X G aRw, out := PySem.W.mg_of X G aOu, nms := PySem.W.mg_of X G aNm, pin := PySem.W.mg_of X G aPi, mis := PySem.W.mg_of X G aM, b_range := PySem.W.mg_none_of X G n_range, b_list := PySem.W.mg_none_of X G n_list, b_len := PySem.W.mg_none_of X G n_len, b_tuple := PySem.W.mg_none_of X G n_tuple, b_isinstance := PySem.W.mg_none_of X G n_isinstance }
      GB FB bB GT FT bT (ok_trs FTs GT FT bT LT) FTs bTs (ok_tri FTr MKT GTi LT) FTr bTr (ok_rws FRw TT) FRw bRw (ok_out FOu (REP base) GM FM bM LT) FOu bOu (ok_nms FNm LT) FNm bNm GPi FPi bPi GM FM bM⟩
theorem walk {l : PySem.W.OpenLaw} {q : Program} {loose : List Str} {XP : (Str → Option Value) → Heap → Prop} {YP : World → Heap → Prop} {d : DefRec} {K : Params → PySem.W.Frag} (hn : l.most = some 63) (hdf : d.params.defaults = [])
    (hY : ∀ (w : World) (h : Heap), YP w h → (K w.params).In h)
    (F : ∀ (w : World) (mg : Str → Option Value) (fa : Addr) (h : Heap), (K w.params).In h → h.Ns mainGlobals mg → mg d.name = some (.ref fa) →
      ∃ fd : FuncData, (∀ (s : Shared) (u : Value), BindsTo s fd ⟨[u], []⟩ [("_law_script", u)]) ∧ ∀ base : Heap, (K w.params).In base → base.Ns mainGlobals mg → FnOk l.prog w (K w.params) mg base CX0 7 fa fd ["_law_script"] (spLaw (K w.params))) :
    PySem.W.WalkO q loose XP YP l.row.toRowW d [] (fun f vs => PySem.call f vs) :=
  L2.walk_of (n := 63) (k := 7) (x := "_law_script") (CX := fun _ => CX0) (sp := fun w => spLaw (K w.params)) hn (by decide) hdf ⟨rfl, by decide, by decide⟩ hY F (fun _ _ a ns hl _ hS => ⟨a, ns, rfl, hS, hl, fun _ => rfl⟩) fun _ _ _ _ _ z => z
end Law

open PySem PySem.W PyProof.Rows
set_option maxRecDepth 100000 in
set_option maxHeartbeats 0 in
theorem PySem.Challenge.cw_rungbounds_k15_misread_and_pinned_holds : PySem.Challenge.rw_rungbounds_k15_misread_and_pinned.Holds := by
  w_on; o_law; k_head; (case hw => w_witness2)
  k_fill
  refine Law.walk (l := PySem.Challenge.rw_rungbounds_k15_misread_and_pinned) rfl rfl (fun w h Y => PySem.W.kIn_of Y) ?F
  case F =>
    intro w mg fa h KX G hmg
    refine' Law.all_mk KX G hmg (by rfl) ?aCT ?aTi ?lTi ?cTi ?kTi ?iTi ?aTa ?lTa ?cTa ?kTa ?iTa ?aM ?lM ?cM ?kM ?aPi ?lPi ?cPi ?kPi ?aB ?lB ?cB ?kB ?aT ?lT ?cT ?kT ?aNm ?lNm ?cNm ?kNm ?aTs ?lTs ?cTs ?kTs ?aTr ?lTr ?cTr ?kTr ?aOu ?lOu ?cOu ?kOu ?aRw ?lRw ?cRw ?kRw ?aL ?lL ?cL ?kL ?opq ?nsup ?aEP ?xEP ?saEP ?gaEP ?ggEP ?nbEP ?iEP ?tEP ?lEP ?coEP ?lkEP ?vkEPx ?feEP ?leEP ?mrEP ?upEP ?svEP ?kcEP ?ebEP ?tyEP ?hdEP ?ssEP ?n_len ?n_int ?n_bool ?n_isinstance ?n_range ?n_list ?n_tuple ?n_enumerate ?xhn ?xht ?tPG ?tHD ?tPO ?tSA ?tMK ?tKP ?tHA ?tHM ?tF0 ?tF1 ?tF2
    (case aCT => k_is)
    (case aTi => k_is)
    (case lTi => k_is)
    (case cTi => k_is)
    (case kTi => k_is)
    (case iTi => k_is)
    (case aTa => k_is)
    (case lTa => k_is)
    (case cTa => k_is)
    (case kTa => k_is)
    (case iTa => k_is)
    (case aM => k_is)
    (case lM => k_is)
    (case cM => k_is)
    (case kM => k_is)
    (case aPi => k_is)
    (case lPi => k_is)
    (case cPi => k_is)
    (case kPi => k_is)
    (case aB => k_is)
    (case lB => k_is)
    (case cB => k_is)
    (case kB => k_is)
    (case aT => k_is)
    (case lT => k_is)
    (case cT => k_is)
    (case kT => k_is)
    (case aNm => k_is)
    (case lNm => k_is)
    (case cNm => k_is)
    (case kNm => k_is)
    (case aTs => k_is)
    (case lTs => k_is)
    (case cTs => k_is)
    (case kTs => k_is)
    (case aTr => k_is)
    (case lTr => k_is)
    (case cTr => k_is)
    (case kTr => k_is)
    (case aOu => k_is)
    (case lOu => k_is)
    (case cOu => k_is)
    (case kOu => k_is)
    (case aRw => k_is)
    (case lRw => k_is)
    (case cRw => k_is)
    (case kRw => k_is)
    (case aL => k_is)
    (case lL => k_is)
    (case cL => k_is)
    (case kL => k_is)
    (case opq => k_is)
    (case nsup => k_is)
    (case aEP => k_is)
    (case xEP => k_is)
    (case saEP => k_is)
    (case gaEP => k_is)
    (case ggEP => k_is)
    (case nbEP => k_is)
    (case iEP => k_is)
    (case tEP => k_is)
    (case lEP => k_is)
    (case coEP => k_is)
    (case lkEP => k_is)
    (case vkEPx => rfl)
    (case feEP => decide +kernel)
    (case leEP => k_is)
    (case mrEP => k_is)
    (case upEP => first | ks_is | rfl)
    (case svEP => k_is)
    (case kcEP => k_is)
    (case ebEP => k_is)
    (case tyEP => k_is)
    (case hdEP => k_is)
    (case ssEP => first | rfl | k_is)
    (case n_len => k_is)
    (case n_int => k_is)
    (case n_bool => k_is)
    (case n_isinstance => k_is)
    (case n_range => k_is)
    (case n_list => k_is)
    (case n_tuple => k_is)
    (case n_enumerate => k_is)
    (case xhn => first | k_is | rfl)
    (case xht => first | k_is | rfl)
    (case tPG => first | k_is | rfl | kernel_rfl)
    (case tHD => first | k_is | rfl | kernel_rfl)
    (case tPO => first | k_is | rfl | kernel_rfl)
    (case tSA => k_is)
    (case tMK => first | k_is | rfl | kernel_rfl)
    (case tKP => k_is)
    (case tHA => k_is)
    (case tHM => k_is)
    (case tF0 => k_is)
    (case tF1 => k_is)
    (case tF2 => k_is)
