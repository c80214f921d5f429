import PyProof.Rows.All
import Wide.All
import OpenK.AllK
import Wide.FinOn
import HandS.ForMost
import HandS.Wide
import HandS.ExcInit
import HandS.FStr
import HandS.Nested
import HandS.TryOnly
import HandS.ExcField
import HandS.WordsExc
import HandS.IsInst
import HandS.Codes
import HandS.Gcd
import HandS.Star
import HandS.ClsMeth
import KE.KTupSum
import HandS.Defaults
import HandS.ExcIs
import KE.KExcSuper
import KE.KMathG
import HandS.FStrTup
import HandS.OwnEq
import HandS.TupLe
import HandS.DeepEq
import HandS.MakeKw
import HandS.Walk
import HandS.WordsDict
import HandS.More
import HandS.Deep
import HandS.Style
import HandS.Flow
import HandS.CallSlots
import KE.GoesRaise
import PyProof.ReprReads
import HandS.MethStar
import HandS.SortInts
import HandS.DictComp
import KE.KSortedM
import PySem.Challenge.RW_rungbounds_k07_whole_rack_of_joins
set_option Elab.async false
set_option linter.all false
set_option maxRecDepth 100000
set_option maxHeartbeats 4000000
/-! Errors whose making calls super().__init__ on a text, then keeps a field. -/
namespace Sup
open PySem PySem.Spec PyProof.Rows L2 NdefX

abbrev mwrap (x : Addr) : Obj := PySem.W.kxs_mw "ValueError.__init__" x

/-- the wrapper of ValueError.__init__ bound to a, called -/
theorem call_wrap {prog : Program} {w : World} {A : Around} {E : Value → Shared → Prop} {h : Heap} {g : Array GenState} {d : Drawn} {t : Nat} {os : OsState}
    {nm q : Str} {C N : Addr} {bs bm : List Value} {hd : Bool} {sn : List Str} {sub : List Value} {ab : Bool} {col : Option Bool} {dd : Option Addr} {k0 k1 k2 k3 k5 : Option Value}
    {u a t0 : Addr} {us : List Value} {Q : Value → Shared → Prop}
    (hC : h.get? C = some (excClassObj nm q C N bs bm hd sn sub ab col dd k0 k1 k2 k3 k5 "ValueError.__new__"))
    (ha : h.get? a = some (PySem.HandSPX.excO C t0)) (hu : h.get? u = some (mwrap a)) (hl : us.length ≤ sizeLine)
    (hq : ∀ h' t1, (∀ b o, b ≠ a → h.get? b = some o → h'.get? b = some o) → h'.get? a = some (PySem.HandSPX.excO C t1) → Q .none ⟨h', g, d, t, os⟩) :
    wpAny (model prog w) A (call (.ref u) us) Q E ⟨h, g, d, t, os⟩ := by
  have FB := F.excBase_ValueError
  refine wpAny_call (codeAny_of_tree ?_)
  show wpAny _ A.in1 (callAny (.ref u) ⟨us, []⟩) _ _ _
  unfold callAny
  refine wpAny_bind (wpAny_load hu ?_)
  have k1' : (Value.type "method-wrapper" == Value.type "method" || Value.type "method-wrapper" == Value.type "builtin_function_or_method" || Value.type "method-wrapper" == Value.type "method-wrapper") = true := by decide
  simp only [mwrap, PySem.W.kxs_mw, k1', if_true]
  refine PySem.W.KFB.if_so (by decide) ?_
  refine wpAny_bind (PySem.W.check_bound_init FB.toExcCallFacts hC ha rfl ?_)
  refine wpAny_bind (wpAny_pure (wpAny_pure ?_))
  refine ⟨plainId_quiet FB.init.plain _, codeAny_builtin FB.initEntry ?_⟩
  exact PySem.W.exc_init_tree (cls := .ref C) (t0 := t0) (dv := none) (c2 := .none) (c3 := .none) (b4 := .bool false) ha hl fun h' k e _ => hq h' _ k e

/-- what the written part says of an own error's class at C and its __init__ at f -/
structure ErrTxt (P : Program) (K : PySem.W.Frag) (mg : Str → Option Value) (C f cda cc : Addr) (qual : Str) (st : Stmt) : Prop where
  oex : OexC K C
  iC : PySem.W.findIn K (.ref C) "__init__" = some (some (.ref f))
  tI : PySem.W.typeIn K (.ref f) = some (.type "function")
  fn : ∃ (oc : Value) (od an : Option Addr) (kV doc pm ct : Value) (osl : Array (Option Value)),
    K.lookup f = some ⟨oc, od, .func (PySem.W.fnX "__init__" qual (defArgs st) (defBody st) (defScope st) [("__class__", cc)] .none kV doc pm an (.ref cda) ct), osl⟩
  code : PySem.W.codeIn K (.ref cda) qual = true
  file : ∃ (o : Obj) (vs : Array Value) (fl : Str) (tf : Tok), K.lookup cda = some o ∧ o.data = .fields vs ∧ vs[2]? = some (.str fl tf) ∧ ((P.main.file : Str) == fl) = true
  cell : ∃ (o : Obj), K.lookup cc = some o ∧ o.data = .cell (some (.ref C))
  self : PySem.W.mroIn K C (.ref C) = some true
  opaque_ : PySem.W.nsIn K cStatics "thirdparty.any" = some none
  up : PySem.W.ks_superIn K C C "__init__" = some (some (.builtin "ValueError.__init__"))
  isVE : PySem.W.subIn K (.ref C) (.type "ValueError") = some true
  top : (P.main.scope.names.lookup ("super" : Str)).isSome = false
  noSup : mg "super" = none

section
variable {X : Cx} {pins : List (Addr × Obj)} {σ : L2.St} {H : Hp} {s : Shared} {a C f cda cc : Addr} {qual : Str} {st : Stmt} {e : Expr} {te : TE} {body : List Stmt} {p0 p1 p2 p3 : Pos} {Q : Hp → Prop} {scope : Scope} {ar : Arg}
theorem super_init (T : ErrTxt X.prog X.K X.mg C f cda cc qual st) (I : Inv X pins σ H s)
    (henv : X.env = PySem.W.envX qual scope X.env.locals f (.ref cda) [("__class__", cc)])
    (hks : scope.names.lookup ("super" : Str) = some .globalImplicit) (hkc : scope.names.lookup ("__class__" : Str) = some .free)
    (hks' : scope.names.lookup ar.arg = some .local)
    (har : ((defArgs st).posonlyargs ++ (defArgs st).args).head? = some ar)
    (h0 : X.N[0]? = some ar.arg) (hs0 : σ[0]? = some (some (V.ref a))) (ha : H a = some (exo a C none))
    (he : PE X e te) (hq : te σ H fun x H1 => [x].length ≤ 1 ∧ H1 a = some (exo a C none) ∧ Q H1) {pl : Sem Bool}
    (hform : eval (.Call (.Attribute (.Call (.Name "super" p0) [] [] p1) "__init__" p2) [e] [] p3) X.env = (do
      let ov ← attributeBase (.Call (.Name "super" p0) [] [] p1) "__init__" X.env (eval (.Call (.Name "super" p0) [] [] p1) X.env)
      standAt p2.atName
      let (g, first) ← holding [ov] (getMethod ov "__init__" pl)
      callWith p3 g first (backTo p3 (starEach [e] X.env)) []) := by rfl)
    (hse : starEach [e] X.env = (false, eval e X.env) :: starEach [] X.env := by rfl) :
    _root_.PySem.wpAt (model X.prog X.w) X.A (.func body X.env) (eval (.Call (.Attribute (.Call (.Name "super" p0) [] [] p1) "__init__" p2) [e] [] p3) X.env)
      (fun _ s' => ∃ H', Inv X pins σ H' s' ∧ Q H') X.xe s := by
  have kS : X.env.kindOf "super" = some .globalImplicit := by rw [henv]; exact hks
  have kC : X.env.kindOf "__class__" = some .free := by rw [henv]; exact hkc
  have kA : X.env.kindOf ar.arg = some .local := by rw [henv]; exact hks'
  have cL : X.env.cells.lookup ("__class__" : Str) = some cc := by rw [henv]; rfl
  have fL : X.env.func = some f := by rw [henv]
  have dL : X.env.code = .ref cda := by rw [henv]
  obtain ⟨nm, q, N, bs, bm, sn, sub, ab, col, dd, k0, k1, k2, k3, k5, hC, hbm⟩ := T.oex.cls
  have hcl : PySem.W.clsIn X.K C = some { name := nm, bases := bs, mro := .ref C :: bm, ns := N, qualname := q, hasDict := true, slotNames := sn, subclasses := sub, abstract := ab, collection := col, hasDel := false } := by
    unfold PySem.W.clsIn; rw [hC] <;> rfl
  obtain ⟨oc, od, an, kV, doc, pm, ct, osl, lf⟩ := T.fn
  obtain ⟨oF, vs, fl, tf, lc, hvf, hv2, hfl⟩ := T.file
  obtain ⟨oc2, lcell, dcell⟩ := T.cell
  obtain ⟨t1, hga⟩ := exo_at I.hok ha
  refine ks_wpAt_MethodCall (o := .Call (.Name "super" p0) [] [] p1) (name := "__init__") (apos := p2) (pos := p3) (args := [e]) (env := X.env) ?_ hform
  refine ks_wpAt_super_base (env := X.env) (cc := cda) (ar := ar) kS kC (by decide) fL (I.kIn _ _ lf) rfl har dL (I.kIn _ _ lc) hvf hv2 hfl T.top ?_
  -- the name super
  obtain ⟨mb, hb1, hb2⟩ := I.mod.blt
  refine PySem.W.ks_loadName_global I.ok.kind kS (Calls.loadGlobal_builtin (v := .type "super") (by rw [I.ok.glob]; exact I.mod.glob.keeps I.bk) T.noSup
    (by rw [I.ok.blt]; exact hb1.keeps I.bk) ((hb2 _ (by decide)).trans (by decide +kernel)) ⟨rfl, ?_⟩)
  -- the cell __class__
  refine wpAny_loadName_free I.ok.kind kC cL (v := .ref C) ⟨_, I.kIn _ _ lcell, dcell⟩ ?_
  -- self
  obtain ⟨m, hn, hlm⟩ := I.loc
  obtain ⟨u, ru, hlook⟩ := hlm 0 ar.arg (V.ref a) h0 hs0 (.inl (by rw [henv]; exact hks'))
  obtain rfl : u = Value.ref a := ru
  have hma : m ar.arg = some (Value.ref a) := by
    rcases hlook with ⟨_, z⟩ | ⟨z, _⟩
    · exact z
    · rw [kA] at z
      rcases z with z | z <;> cases z
  refine wpAny_loadName_local I.ok.kind kA hn hma ?_
  have gC := I.kIn _ _ hC
  refine ks_wpAny_isType_cls gC rfl ⟨rfl, ?_⟩
  obtain ⟨hp, g, d, t, os⟩ := s
  refine ks_wpAny_call_super gC rfl hga rfl (fun c z => by cases z) (PySem.W.looks_mroIn I.kIn T.self) fun h1 e1 k1 => ?_
  have J1 : Inv X pins σ H ⟨h1, g, d, t, os⟩ := I.kept (t' := t) k1
  have I1 : PySem.W.InstAt h1 a (PySem.HandSPX.excO C t1) C none := ⟨k1 _ _ hga, rfl, rfl, trivial⟩
  have hup := T.up
  unfold PySem.W.ks_superIn at hup
  rw [hcl] at hup
  refine PySem.W.kxs_getMethod PySem.W.kxs_ValueError e1 (PySem.W.looks_opaque J1.kIn T.opaque_)
    (fun A' Q' E' s' k q => wpAny_bind ((PySem.W.looks_clsIn J1.kIn hcl) A' _ E' s' k (wpAny_pure q))) rfl J1.kIn hup
    (I1.type.andThen (PySem.W.looks_subIn J1.kIn T.isVE)) (PySem.W.ks_ne J1.kIn I1 hcl) (by decide) ?_
  have gu : (h1.push (mwrap a)).get? h1.objs.size = some (mwrap a) := Heap.get?_push_at rfl rfl
  have J2 : Inv X pins σ H ⟨h1.push (mwrap a), g, d, t + 1, os⟩ := J1.kept (t' := t + 1) fun b o z => Heap.get?_push_of_some _ z
  have J3 : Inv X ((h1.objs.size, mwrap a) :: pins) σ H ⟨h1.push (mwrap a), g, d, t + 1, os⟩ := J2.pins_of fun p hp => by
    rcases List.mem_cons.mp hp with rfl | hp
    · refine ⟨gu, J1.hok.fresh (Nat.le_refl _), fun z => ?_, J1.nofs (Nat.le_refl _), fun v z => by cases z⟩
      have z' : h1.objs.size = X.env.locals := z
      have y := J1.lt
      rw [← z'] at y
      exact absurd y (Nat.lt_irrefl _)
    · exact J2.pin p (List.mem_append_right _ hp)
  show wpAny _ _ (callWith p3 (.ref h1.objs.size) [] (backTo p3 (starEach [e] X.env)) []) _ _ _
  have hq' : tCons te tNil σ H fun xs H1 => xs.length ≤ 1 ∧ H1 a = some (exo a C none) ∧ Q H1 := hq
  rw [hse]
  refine PySem.W.kxs_callWith (i := "ValueError.__init__") (x := a) (by rfl) ?_
  refine Calls.evalArgs_plain ?_
  have pr := (pa_cons he pa_nil hse).run p3 _ _ σ H _ J3 hq'
  rw [hse] at pr
  refine thn pr fun us s2 hh => ?_
  obtain ⟨xs, H2, I2, r2, hx1, ha2, hQ2⟩ := hh
  have gw := (I2.pin (h1.objs.size, mwrap a) (List.mem_append_right _ List.mem_cons_self)).1
  refine ⟨gw, ?_⟩
  obtain ⟨t2, hga2⟩ := exo_at I2.hok ha2
  obtain ⟨hp2, g2, d2, tk2, os2⟩ := s2
  have hul : us.length ≤ sizeLine := by
    rw [← r2.length, sizeLine_eq]
    omega
  refine call_wrap (us := us) (I2.kIn _ _ hC) hga2 gw hul fun h3 t3 k3' e3 => ?_
  have J4 := I2.write (t' := tk2) (x := a) (e := a) (o := exo a C none) (by rw [ha2]; exact True.intro) (.inl rfl) k3' ⟨_, e3⟩ (exo_ok e3)
  have eu : upd H2 a (exo a C none) = H2 := by
    funext b
    by_cases hb : b = a
    · rw [hb, upd_same, ha2]
    · exact upd_ne hb
  rw [eu] at J4
  exact ⟨H2, J4.pins_of fun p hp => J4.pin p (List.mem_append_right _ (List.mem_cons_of_mem _ hp)), hQ2⟩
end

/-! ### the making of an own error, as a promise -/
/-- at a an exception of the class at C is being made; the argument v goes to the field fl -/
def spErr (C : Addr) (fl : Str) (ok : V → Prop) : Sp := fun vs H Q _ => ∃ (a : Addr) (v : V), vs = [.ref a, v] ∧ H a = some (exo a C none) ∧ ok v ∧
  ∀ dx, H dx = none → dx ≠ a → Q .non (upd (upd H dx (exd dx [(fl, v)])) a (exo a C (some dx)))

def okInt : V → Prop := fun v => ∃ i : Int, v = .int i ∧ i.natAbs.log2 < 1920
def okTxt : V → Prop := fun v => ∃ y : Str, v = .str y ∧ (reprText y).length ≤ 10000

section
variable {P : Program} {w : World} {K : PySem.W.Frag} {mg : Str → Option Value} {base : Heap} {C f cda cc : Addr} {qual pn : Str} {st : Stmt} {N : List Str}

abbrev supNF (qual : Str) (st : Stmt) (cda cc : Addr) : NF := ⟨"__init__", qual, defArgs st, defBody st, defScope st, [("__class__", cc)], cda⟩

/-- a def that closes over __class__ alone, entered: its body runs in the frame of NdefX -/
theorem sup_fn {CX : CXT} {sp : Sp} {k : Nat} {ps : List Str} (T : ErrTxt P K mg C f cda cc qual st) (S : NScope N ps ["__class__"] (defScope st))
    (len : ∀ vs H Q E, sp vs H Q E → vs.length = ps.length)
    (hb : ∀ (oc : Value) (od an : Option Addr) (kV doc pm ct : Value) (us : List Value), us.length = ps.length →
      bindArgs (PySem.W.fnX "__init__" qual (defArgs st) (defBody st) (defScope st) [("__class__", cc)] .none kV doc pm an (.ref cda) ct) ⟨us, []⟩ = pure (ps.zip us))
    (hbody : ∀ (A : Around) (outer : List Env) (s : Shared) (H : Hp) (vs : List V) (Q : VK) (E : XK), sp vs H Q E → Room k (ncx CX P w K mg base N (supNF qual st cda cc) f A outer s H E).A →
      ∀ s1, L2.Inv (ncx CX P w K mg base N (supNF qual st cda cc) f A outer s H E) [] (startF N vs [none]) H s1 →
        _root_.PySem.wpAt (model P w) (ncx CX P w K mg base N (supNF qual st cda cc) f A outer s H E).A (.func (defBody st) (ncx CX P w K mg base N (supNF qual st cda cc) f A outer s H E).env)
          (execs (defBody st) (ncx CX P w K mg base N (supNF qual st cda cc) f A outer s H E).env)
          (SP (ncx CX P w K mg base N (supNF qual st cda cc) f A outer s H E) [] { nx := fun _ H' => Q .non H', rt := Q })
          (ncx CX P w K mg base N (supNF qual st cda cc) f A outer s H E).xe s1) :
    ∃ fd, FnOk P w K mg base CX (k + 1) f fd ps sp ∧ Binds K fd ps [] := by
  obtain ⟨oc, od, an, kV, doc, pm, ct, osl, lf⟩ := T.fn
  obtain ⟨oc2, lcell, dcell⟩ := T.cell
  refine ⟨_, ⟨len, fun A outer s H args us vs Q E hr e0 hbd r hsp => ?_⟩, Binds.all (hb oc od an kV doc pm ct)⟩
  have hl := len _ _ _ _ hsp
  have KX : K.In s.heap := e0.mod.kin.keeps fun b o e => (e0.bs b o e).1
  have lim : s.heap.NoLimit := e0.mod.nolimit.keeps fun b o e => (e0.bs b o e).1
  have hH : H cc = none := (e0.bs cc oc2 (e0.mod.kin _ _ lcell)).2
  have CA : CellsAt [("__class__", cc)] ["__class__"] [none] s.heap H := {
    len := rfl
    all := fun y c h => by
      have h' : (if y = ("__class__" : Str) then some cc else none) = some c := by
        by_cases e : y = ("__class__" : Str)
        · subst e; exact h
        · have q : (y == ("__class__" : Str)) = false := by simpa using e
          have z : List.lookup y [(("__class__" : Str), cc)] = none := by simp [List.lookup, q]
          rw [z] at h; cases h
      split at h'
      · cases h'
        exact ⟨hH, some (.ref C), oc2, KX _ _ lcell, dcell⟩
      · cases h'
    inj := fun x y c h1 h2 => by
      have key : ∀ z : Str, List.lookup z [(("__class__" : Str), cc)] = some c → z = "__class__" := fun z hz => by
        by_cases e : z = ("__class__" : Str)
        · exact e
        · have q : (z == ("__class__" : Str)) = false := by simpa using e
          have w : List.lookup z [(("__class__" : Str), cc)] = none := by simp [List.lookup, q]
          rw [w] at hz; cases hz
      exact (key x h1).trans (key y h2).symm
    has := fun i y h => by
      match i, h with
      | 0, h =>
        have e : ("__class__" : Str) = y := Option.some.inj h
        subst e
        exact ⟨cc, by simp [List.lookup], fun v z => by cases z⟩
      | i + 1, h => cases h }
  refine ks_codeAny_call_defAt (binds := ps.zip us) hr.depth (KX _ _ lf) rfl lim (PySem.W.codeRec_of KX T.code) rfl hbd S.nocell (fun ⟨n, _⟩ hy => S.par n (List.of_mem_zip hy).1) (fun h1 hns kp => ?_) S.co S.gen S.kind
  have I : L2.Inv (ncx CX P w K mg base N (supNF qual st cda cc) f A outer s H E) [] (startF N vs [none]) H { s with heap := h1, toks := s.toks + (ps.zip us).length } :=
    inv_startN S hr.hd e0 hl r CA hns kp
  refine _root_.PySem.wpAt_mono (hbody A outer s H vs Q E hsp (hr.deeper _) _ I) (fun fl s' hs => ?_) fun e s' hs => hs
  cases fl with
  | ret u =>
    obtain ⟨v, σ', H', J, rv, q⟩ := hs
    exact ⟨v, H', J.os, J.bare, J.base, J.hok, rv, q⟩
  | next =>
    obtain ⟨σ', H', J, q⟩ := hs
    exact ⟨V.non, H', J.os, J.bare, J.base, J.hok, rfl, q⟩
  | brk =>
    obtain ⟨_, _, _, q⟩ := hs
    exact False.elim q
  | cont =>
    obtain ⟨_, _, _, q⟩ := hs
    exact False.elim q
end

section
variable {P : Program} {w : World} {K : PySem.W.Frag} {mg : Str → Option Value} {base : Heap} {C f cda cc : Addr} {qual pn : Str} {st : Stmt} {N : List Str}

/-- the body: super().__init__(e), then one statement more -/
theorem two_run {X : Cx} {σ : L2.St} {H : Hp} {s : Shared} {a : Addr} {e : Expr} {te : TE} {t2 : TS} {st2 : Stmt} {body : List Stmt} {p0 p1 p2 p3 p4 : Pos} {scope : Scope} {ar : Arg} {D : Ends}
    (T : ErrTxt X.prog X.K X.mg C f cda cc qual st) (I : L2.Inv X [] σ H s)
    (henv : X.env = PySem.W.envX qual scope X.env.locals f (.ref cda) [("__class__", cc)])
    (hks : scope.names.lookup ("super" : Str) = some .globalImplicit) (hkc : scope.names.lookup ("__class__" : Str) = some .free)
    (hka : scope.names.lookup ar.arg = some .local)
    (har : ((defArgs st).posonlyargs ++ (defArgs st).args).head? = some ar)
    (h0 : X.N[0]? = some ar.arg) (hs0 : σ[0]? = some (some (V.ref a))) (ha : H a = some (exo a C none))
    (he : PE X e te) (h2 : PS X st2 t2) (hq : te σ H fun x H1 => [x].length ≤ 1 ∧ H1 a = some (exo a C none) ∧ t2 D σ H1) {pl : Sem Bool}
    (hform : eval (.Call (.Attribute (.Call (.Name "super" p0) [] [] p1) "__init__" p2) [e] [] p3) X.env = (do
      let ov ← attributeBase (.Call (.Name "super" p0) [] [] p1) "__init__" X.env (eval (.Call (.Name "super" p0) [] [] p1) X.env)
      standAt p2.atName
      let (g, first) ← holding [ov] (getMethod ov "__init__" pl)
      callWith p3 g first (backTo p3 (starEach [e] X.env)) []) := by rfl)
    (hse : starEach [e] X.env = (false, eval e X.env) :: starEach [] X.env := by rfl) (hi : interactive X.env = false := by rfl) :
    _root_.PySem.wpAt (model X.prog X.w) X.A (.func body X.env)
      (execs [.Expr (.Call (.Attribute (.Call (.Name "super" p0) [] [] p1) "__init__" p2) [e] [] p3) p4, st2] X.env) (SP X [] D) X.xe s := by
  refine ks_wpAt_execs_cons (ks_wpAt_Expr_any ?_ hi)
  refine _root_.PySem.wpAt_mono (super_init (Q := fun H1 => t2 D σ H1) T I henv hks hkc hka har h0 hs0 ha he hq hform hse) (fun v s' hh => ?_) fun _ _ z => z
  obtain ⟨H1, I1, q⟩ := hh
  exact _root_.PySem.wpAt_of_wpAny ((pss_one h2).run [] s' σ H1 D I1 q)

theorem form_of (env : Env) {p0 p1 p2 p3 q4 : Pos} {ps : List Expr} (hln : (p2.endLine == p3.line) = true) : eval (.Call (.Attribute (.Call (.Name "super" p0) [] [] p1) "__init__" p2) [.JoinedStr ps q4] [] p3) env = (do
      let ov ← attributeBase (.Call (.Name "super" p0) [] [] p1) "__init__" env (eval (.Call (.Name "super" p0) [] [] p1) env)
      standAt p2.atName
      let (g, first) ← holding [ov] (getMethod ov "__init__" (do return (← importBound (.Call (.Name "super" p0) [] [] p1) env).getD true))
      callWith p3 g first (backTo p3 (starEach [.JoinedStr ps q4] env)) []) := by
  have hp : methodCallPos true (.Call (.Name "super" p0) [] [] p1) env p2 p3 = pure p3 := by
    unfold methodCallPos
    rw [hln]
    rfl
  show (do
    let ov ← attributeBase (.Call (.Name "super" p0) [] [] p1) "__init__" env (eval (.Call (.Name "super" p0) [] [] p1) env)
    standAt p2.atName
    let (g, first) ← holding [ov] (getMethod ov "__init__" (do return (← importBound (.Call (.Name "super" p0) [] [] p1) env).getD true))
    let cp ← methodCallPos true (.Call (.Name "super" p0) [] [] p1) env p2 p3
    callWith cp g first (backTo p3 (starEach [.JoinedStr ps q4] env)) []) = _
  rw [hp]
  rfl
theorem lit_small {lit : Str} (hl : lit.length ≤ 1000) : (Str.empty ++ lit).length ≤ 1000 := by
  rw [Str.length_append]
  exact Nat.le_trans (Nat.le_of_eq (Nat.zero_add _)) hl
theorem err_int {lit : Str} {j : Nat} {q1 q2 q3 q4 p0 p1 p2 p3 p4 r1 r2 r3 r4 : Pos} {ar : Arg} (T : ErrTxt P K mg C f cda cc qual st)
    (hbd : defBody st = [.Expr (.Call (.Attribute (.Call (.Name "super" p0) [] [] p1) "__init__" p2) [.JoinedStr [.Constant (.str lit) j q1, .FormattedValue (.Name pn q2) (-1) none q3] q4] [] p3) p4,
      .Assign [.Attribute (.Name "self" r1) pn r2] (.Name pn r3) r4]) (hln : (p2.endLine == p3.line) = true)
    (S : NScope ["self", pn, "__class__"] ["self", pn] ["__class__"] (defScope st))
    (hb : ∀ (oc : Value) (od an : Option Addr) (kV doc pm ct : Value) (us : List Value), us.length = 2 →
      bindArgs (PySem.W.fnX "__init__" qual (defArgs st) (defBody st) (defScope st) [("__class__", cc)] .none kV doc pm an (.ref cda) ct) ⟨us, []⟩ = pure ((["self", pn] : List Str).zip us))
    (hks : (defScope st).names.lookup ("super" : Str) = some .globalImplicit)
    (har : ((defArgs st).posonlyargs ++ (defArgs st).args).head? = some ar) (har2 : ar.arg = "self")
    (hd1 : (pn == ("__debug__" : Str)) = false) (hd2 : (pn == ("__classdict__" : Str)) = false)
    (hlit : lit.length ≤ 1000) (hno : PySem.W.findIn K (.ref C) pn = some none) :
    ∃ fd, FnOk P w K mg base CX0 2 f fd ["self", pn] (spErr C pn okInt) ∧ Binds K fd ["self", pn] [] := by
  refine sup_fn T S (fun vs H Q E h => ?_) hb fun A outer s H vs Q E hsp hroom s1 I => ?_
  · obtain ⟨a, v, rfl, _⟩ := h
    rfl
  · obtain ⟨a, v, rfl, ha, ⟨i, rfl, hi⟩, hQ⟩ := hsp
    have vN : Vis (ncx CX0 P w K mg base ["self", pn, "__class__"] (supNF qual st cda cc) f A outer s H E).env.scope pn := .inl (S.par _ (by simp))
    have vS : Vis (ncx CX0 P w K mg base ["self", pn, "__class__"] (supNF qual st cda cc) f A outer s H E).env.scope "self" := .inl (S.par _ (by simp))
    rw [hbd]
    refine two_run (te := fun σ H Q => tJs [tC (.str lit), tFmt (tVar 1)] Str.empty σ H fun out H1 => Q (.str out) H1) T I rfl hks (S.frk _ (by simp)) (by rw [har2]; exact S.par _ (by simp)) har (by rw [har2]; rfl) rfl ha
      (pe_joined (.cons pe_str (.cons (pe_fmt (pe_var (i := 1) rfl vN hd1 hd2)) .nil)))
      (ps_ost (pe_var (i := 0) rfl vS) (pe_var (i := 1) rfl vN hd1 hd2)) ?_ (form_of _ hln) (by rfl) (by show ((defScope st).kind == _ && _) = false; rw [S.kind]; rfl)
    have e0 := lit_small hlit
    have e1 := int_text_length_le (k := 1920) (by decide) hi
    refine ⟨lit, rfl, by rw [sizeLine_eq]; omega, _, rfl, .inr ⟨i, rfl, hi, Str.ofString (toString i), rfl, ?_, Nat.le_refl _, ha, ?_⟩⟩
    · rw [Str.length_append, PySem.ofString_length, sizeLine_eq]
      omega
    · exact ⟨_, rfl, _, rfl, a, C, rfl, T.oex, hno, .inl ⟨ha, fun dx h1 h2 => hQ dx h1 h2⟩⟩
/-- the same where the argument is a text, shown by its repr -/
theorem err_txt {lit : Str} {j : Nat} {q1 q2 q3 q4 p0 p1 p2 p3 p4 r1 r2 r3 r4 : Pos} {ar : Arg} (T : ErrTxt P K mg C f cda cc qual st)
    (hbd : defBody st = [.Expr (.Call (.Attribute (.Call (.Name "super" p0) [] [] p1) "__init__" p2) [.JoinedStr [.Constant (.str lit) j q1, .FormattedValue (.Name pn q2) 114 none q3] q4] [] p3) p4,
      .Assign [.Attribute (.Name "self" r1) pn r2] (.Name pn r3) r4]) (hln : (p2.endLine == p3.line) = true)
    (S : NScope ["self", pn, "__class__"] ["self", pn] ["__class__"] (defScope st))
    (hb : ∀ (oc : Value) (od an : Option Addr) (kV doc pm ct : Value) (us : List Value), us.length = 2 →
      bindArgs (PySem.W.fnX "__init__" qual (defArgs st) (defBody st) (defScope st) [("__class__", cc)] .none kV doc pm an (.ref cda) ct) ⟨us, []⟩ = pure ((["self", pn] : List Str).zip us))
    (hks : (defScope st).names.lookup ("super" : Str) = some .globalImplicit)
    (har : ((defArgs st).posonlyargs ++ (defArgs st).args).head? = some ar) (har2 : ar.arg = "self")
    (hd1 : (pn == ("__debug__" : Str)) = false) (hd2 : (pn == ("__classdict__" : Str)) = false)
    (hlit : lit.length ≤ 1000) (hno : PySem.W.findIn K (.ref C) pn = some none) :
    ∃ fd, FnOk P w K mg base CX0 2 f fd ["self", pn] (spErr C pn okTxt) ∧ Binds K fd ["self", pn] [] := by
  refine sup_fn T S (fun vs H Q E h => ?_) hb fun A outer s H vs Q E hsp hroom s1 I => ?_
  · obtain ⟨a, v, rfl, _⟩ := h
    rfl
  · obtain ⟨a, v, rfl, ha, ⟨y, rfl, hy⟩, hQ⟩ := hsp
    have vN : Vis (ncx CX0 P w K mg base ["self", pn, "__class__"] (supNF qual st cda cc) f A outer s H E).env.scope pn := .inl (S.par _ (by simp))
    have vS : Vis (ncx CX0 P w K mg base ["self", pn, "__class__"] (supNF qual st cda cc) f A outer s H E).env.scope "self" := .inl (S.par _ (by simp))
    rw [hbd]
    refine two_run (te := fun σ H Q => tJs [tC (.str lit), tFmtR (tVar 1)] Str.empty σ H fun out H1 => Q (.str out) H1) T I rfl hks (S.frk _ (by simp)) (by rw [har2]; exact S.par _ (by simp)) har (by rw [har2]; rfl) rfl ha
      (pe_joined (.cons pe_str (.cons (pe_fmtR (pe_var (i := 1) rfl vN hd1 hd2)) .nil)))
      (ps_ost (pe_var (i := 0) rfl vS) (pe_var (i := 1) rfl vN hd1 hd2)) ?_ (form_of _ hln) (by rfl) (by show ((defScope st).kind == _ && _) = false; rw [S.kind]; rfl)
    have e0 := lit_small hlit
    refine ⟨lit, rfl, by rw [sizeLine_eq]; omega, _, rfl, .inl ⟨y, rfl, by rw [sizeLine_eq]; omega, reprText y, rfl, ?_, Nat.le_refl _, ha, ?_⟩⟩
    · rw [Str.length_append, sizeLine_eq]
      omega
    · exact ⟨_, rfl, _, rfl, a, C, rfl, T.oex, hno, .inl ⟨ha, fun dx h1 h2 => hQ dx h1 h2⟩⟩
end

/-! ### an own error, ready to be raised and caught -/
structure ErrOk (P : Program) (w : World) (K : PySem.W.Frag) (mg : Str → Option Value) (base : Heap) (nm : Str) (C : Addr) (fl : Str) (ok : V → Prop) : Prop where
  oex : OexC K C
  xf : XfC K C
  g : mg nm = some (.ref C)
  no : PySem.W.findIn K (.ref C) fl = some none
  te : PySem.W.exmOne K (.ref C) (.ref C) = some true
  run : ∃ (f : Addr) (fd : FuncData), PySem.W.findIn K (.ref C) "__init__" = some (some (.ref f)) ∧ PySem.W.typeIn K (.ref f) = some (.type "function") ∧
    FnOk P w K mg base CX0 2 f fd ["self", fl] (spErr C fl ok) ∧ Binds K fd ["self", fl] []

section
variable {X : Cx} {nm : Str} {C : Addr} {fl : Str} {ok : V → Prop} {e : Expr} {ta : TA} {p pos pos2 : Pos} {W : WX}
/-- raise nm(e) -/
def tErr (C : Addr) (fl : Str) (ok : V → Prop) (ta : TA) (W : WX) : TS := fun _ σ H => tMkO C (spErr C fl ok) [] ta σ H fun cls d H' => W cls d σ H'
theorem ps_err (R : ErrOk X.prog X.w X.K X.mg X.base nm C fl ok) (hc : X.calm = true) (tk : Takes X W) (hr : Room 3 X.A) (ha : PA X [e] ta) (hg : Gl X nm)
    (hdb : (nm == ("__debug__" : Str)) = false := by decide) (he : starEach [e] X.env = (false, eval e X.env) :: starEach [] X.env := by rfl) (hpl : (backTo pos (starEach [] X.env)).any (·.1) = false := by rfl) :
    PS X (.Raise (some (.Call (.Name nm p) [e] [] pos)) none pos2) (tErr C fl ok ta W) := by
  obtain ⟨f, fd, h1, h2, h3, h4⟩ := R.run
  exact ps_raise hc tk (pmk_oex R.oex h1 h2 h3 hr h4 .nil pass0 hg R.g ha hdb he hpl)
/-- what such a raise asks: the argument is fit, and every way out is met -/
theorem err_way {H1 : Hp} {v : V} {Q : XK} (hv : ok v) (h : ∀ d, H1 d = none → Q (.ref C) (some d) (upd H1 d (.xd [(fl, v)]))) :
    [v].length ≤ 1000 ∧ ∀ a, H1 a = none → spErr C fl ok (.ref a :: ([v] ++ [])) (upd H1 a (exo a C none))
      (fun r H2 => r = .non ∧ ∃ (d : Addr) (fs : List (Str × V)), H2 a = some (exo a C (some d)) ∧ H2 d = some (exd d fs) ∧ H1 d = none ∧ Q (.ref C) (some d) (upd (del H2 a) d (.xd fs))) (fun _ _ _ => False) := by
  refine ⟨by show 1 ≤ 1000; omega, fun a hn => ⟨a, v, rfl, upd_same, hv, fun dx hdx hne => ⟨rfl, dx, _, upd_same, by rw [upd_ne hne, upd_same], ?_, ?_⟩⟩⟩
  · rw [upd_ne hne] at hdx
    exact hdx
  · have hd1 : H1 dx = none := by
      rw [upd_ne hne] at hdx
      exact hdx
    have e : upd (del (upd (upd (upd H1 a (exo a C none)) dx (exd dx [(fl, v)])) a (exo a C (some dx))) a) dx (.xd [(fl, v)]) = upd H1 dx (.xd [(fl, v)]) := by
      funext b
      by_cases hb : b = dx
      · rw [hb, upd_same, upd_same]
      · rw [upd_ne hb, upd_ne hb]
        by_cases hba : b = a
        · rw [hba, del_same, hn]
        · rw [del_ne hba, upd_ne hba, upd_ne hb, upd_ne hba]
    rw [e]
    exact h dx hd1
end
end Sup

/-! Operators, repr and call of instances of own classes. -/
namespace Own
open PySem PySem.Spec PyProof.Rows L2
section
variable {X : Cx} {CX : CXT} {k : Nat} {C g : Addr} {sp : Sp} {E : XK} {pins : List (Addr × Obj)} {σ : L2.St} {H : Hp} {s : Shared}
theorem not_ni {v : V} {u : Value} (r : RelV v u) : u ≠ .notImplemented := fun z => by
  subst z
  cases v <;> first | (cases r; done) | (obtain ⟨_, z⟩ := r; cases z; done) | (obtain ⟨_, z⟩ := r; nomatch z)
theorem back {Q : VK} {u : Value} {s' : Shared} (h : EP X pins σ Q u s') : PySem.W.CmpBack (EP X pins σ Q) u s' := by
  obtain ⟨v, H', I', rv, q⟩ := id h
  have n := not_ni rv
  cases u <;> first | exact h | exact absurd rfl n
/-- a promise of an own method, asked at other surroundings with the same frames -/
theorem run_at {A : Around} {Q : VK} {us : List Value} {vs : List V} (F : FnR X.prog X.w X.K X.mg X.base CX k g sp) (hr : Room k A) (hfr : A.frames = some X.stack) (hx : Passes CX X E) (I : Inv X pins σ H s) (r : Vals vs us) (h : sp vs H Q E) :
    wpAny (model X.prog X.w) A (call (.ref g) us) (EP X pins σ Q) X.xe s := by
  have e0 : Env0 X.prog X.w X.K X.mg X.base A X.stack s H := by
    have e := I.env0
    exact ⟨hfr, e.mod, e.bs, e.bsz, e.funs, e.frf, e.hok, e.bare⟩
  refine wpAny_call (codeAny_mono (F A X.stack s H us vs Q E hr e0 r h) fun r s' hq => ?_)
  cases r with
  | error e => exact hx pins σ H s e s' I hq
  | ok fl =>
    cases fl with
    | ret u => exact I.after hq
    | next => exact False.elim hq
    | brk => exact False.elim hq
    | cont => exact False.elim hq
/-- two instances of the class at C, and what the operator's def promises of them -/
def rOwn (C : Addr) (sp : Sp) (E : XK) : R2 := fun x y H Q => ∃ a b dx dy fs gs, x = .ref a ∧ y = .ref b ∧ H a = some (.ins C dx fs) ∧ H b = some (.ins C dy gs) ∧ sp [.ref a, .ref b] H Q E
theorem op_cmp {op : CmpOp} (hop : ∀ v u, compareOp op v u = richCompare op v u) (F : FnR X.prog X.w X.K X.mg X.base CX k g sp) (hs : PySem.W.findIn X.K (.ref C) (cmpInfo op).2.1 = some (some (.ref g))) (hf : PySem.W.isFn X.K (.ref g) = true)
    (hr : Room k X.A) (hx : Passes CX X E) : OpR X (compareOp op) (rOwn C sp E) := by
  intro pins s σ H x y v u Q I rx ry h
  obtain ⟨a, b, dx, dy, fs, gs, rfl, rfl, ha, hb, hsp⟩ := h
  cases rx
  cases ry
  obtain ⟨mA, J, _⟩ := ins_get I.hok ha
  obtain ⟨mB, J', _⟩ := ins_get I.hok hb
  obtain ⟨od, J, _⟩ := J.look
  obtain ⟨od', J', _⟩ := J'.look
  obtain ⟨m, hF⟩ := I.fr
  rw [hop]
  refine PySem.W.cmp_K (op := op) (tb := .ref C) hr.units0 hF I.ok.mod.kin J J'.type (by simp [PySem.W.notFirst]) hs hf ?_
  exact wpAny_mono (wpAny_call (run_fnR F hr hx I (us := [.ref a, .ref b]) (vs := [.ref a, .ref b]) (.cons rfl (.cons rfl .nil)) hsp)) (fun _ _ z => back z) fun _ _ z => z
theorem op_bin {op : Operator} (hop : ∀ v u : Value, PySem.binaryOp op v u = PySem.binaryOp op v u) (F : FnR X.prog X.w X.K X.mg X.base CX k g sp) (hs : PySem.W.findIn X.K (.ref C) (PySem.dunder op.info.2) = some (some (.ref g))) (hf : PySem.W.isFn X.K (.ref g) = true)
    (hc : PySem.W.selfFirst X.K C = true) (hr : Room k X.A) (hx : Passes CX X E) : OpR X (PySem.binaryOp op) (rOwn C sp E) := by
  intro pins s σ H x y v u Q I rx ry h
  obtain ⟨a, b, dx, dy, fs, gs, rfl, rfl, ha, hb, hsp⟩ := h
  cases rx
  cases ry
  obtain ⟨mA, J, _⟩ := ins_get I.hok ha
  obtain ⟨mB, J', _⟩ := ins_get I.hok hb
  obtain ⟨od, J, _⟩ := J.look
  obtain ⟨od', J', _⟩ := J'.look
  obtain ⟨m, hF⟩ := I.fr
  refine PySem.W.binop_K (op := op) hF I.ok.mod.kin J J'.type hc hs hf ?_
  exact wpAny_mono (wpAny_call (run_fnR F hr hx I (us := [.ref a, .ref b]) (vs := [.ref a, .ref b]) (.cons rfl (.cons rfl .nil)) hsp)) (fun _ _ z => back z) fun _ _ z => z
/-- repr of an instance -/
def rRepr (C : Addr) (sp : Sp) (E : XK) : List V → Hp → VK → Prop := fun xs H Q => ∃ a dx fs, xs = [.ref a] ∧ H a = some (.ins C dx fs) ∧ sp [.ref a] H (fun v H' => ∃ y, v = .str y ∧ Q v H') E
theorem call_repr (F : FnR X.prog X.w X.K X.mg X.base CX k g sp) (hs : PySem.W.findIn X.K (.ref C) "__repr__" = some (some (.ref g))) (hf : PySem.W.isFn X.K (.ref g) = true)
    (hr : Room (k + 1) X.A) (hx : Passes CX X E) : CallR X (.builtin "repr") (rRepr C sp E) := by
  intro pins s σ H xs us Q I r h
  obtain ⟨a, dx, fs, rfl, ha, hsp⟩ := h
  obtain ⟨u, rfl, r1⟩ : ∃ u, us = [u] ∧ RelV (.ref a) u := by
    cases r with
    | cons r1 rr =>
      cases rr
      exact ⟨_, rfl, r1⟩
  cases r1
  obtain ⟨mA, J, _⟩ := ins_get I.hok ha
  obtain ⟨od, J, _⟩ := J.look
  obtain ⟨m, hF⟩ := I.fr
  refine PySem.W.repr_K ?_ hF I.ok.mod.kin J hs hf (wpAny_mono (run_at F ?_ ?_ hx I (us := [.ref a]) (vs := [.ref a]) (.cons rfl .nil) hsp) (fun u s' z => ?_) fun _ _ z => z)
  · have := hr.un
    show X.A.units + 1 < _
    omega
  · exact hr.in1
  · exact I.env0.frames
  · obtain ⟨v, H', I', rv, y, rfl, q⟩ := z
    obtain ⟨t, rfl⟩ := rv
    exact ⟨.str y, H', I', ⟨t, rfl⟩, q⟩
/-! ### != by the own == -/
theorem ifBound_B {M : Model} {A : Around} {Er : Value → Shared → Prop} {s : Shared} {K : PySem.W.Frag} {x C : Addr} {ox : Obj} {od : Option Obj} {name : Str} {id : String} {args : List Value} {Q : Option Value → Shared → Prop} (X : K.In s.heap) (I : PySem.W.InstAt s.heap x ox C od)
    (hs : PySem.W.findIn K (.ref C) name = some (some (.builtin id))) (hb : ∀ self, bindSpecial (.builtin id) self = pure (.builtin id, [self]))
    (h : wpAny M A (call (.builtin id) (.ref x :: args)) (fun v => Q (some v)) Er s) : wpAny M A (callSpecialIfBound? (.ref x) name args) Q Er s := by
  simp only [callSpecialIfBound?, bindSpecialIfBound?]
  refine wpAny_holding (wpAny_bind (wpAny_bind (wpAny_bind (I.type.here ((PySem.W.looks_findIn X hs).here ?_)))))
  refine wpAny_bind (wpAny_askSetting (wpAny_ite ?_))
  have fin : wpAny M A (call (.builtin id) ([.ref x] ++ args) >>= fun v => pure (some v)) Q Er s := wpAny_bind (wpAny_mono h (fun v s' h' => wpAny_pure h') fun _ _ h' => h')
  split
  · exact wpAny_bind ((PySem.W.Looks.of_pure (hb _)).here (wpAny_pure (by exact fin)))
  · exact wpAny_tryCatch (wpAny_bind ((PySem.W.Looks.of_pure (hb _)).here (wpAny_pure (by exact fin))))
def rOwnNe (C : Addr) (sp : Sp) (E : XK) : R2 := fun x y H Q => ∃ a b dx dy fs gs, x = .ref a ∧ y = .ref b ∧ H a = some (.ins C dx fs) ∧ H b = some (.ins C dy gs) ∧ sp [.ref a, .ref b] H (fun v H' => ∃ t, v = .bl t ∧ Q (.bl (!t)) H') E
theorem op_ne (F : FnR X.prog X.w X.K X.mg X.base CX k g sp) (hs : PySem.W.findIn X.K (.ref C) "__eq__" = some (some (.ref g))) (hn : PySem.W.findIn X.K (.ref C) "__ne__" = some (some (.builtin "object.__ne__"))) (hm : PySem.W.mroIn X.K C (.type "object") = some true)
    (hf : PySem.W.isFn X.K (.ref g) = true) (hr : Room (k + 1) X.A) (hx : Passes CX X E) : OpR X (compareOp .NotEq) (rOwnNe C sp E) := by
  intro pins s σ H x y v u Q I rx ry h
  obtain ⟨a, b, dx, dy, fs, gs, rfl, rfl, ha, hb, hsp⟩ := h
  cases rx
  cases ry
  obtain ⟨mA, J, _⟩ := ins_get I.hok ha
  obtain ⟨mB, J', _⟩ := ins_get I.hok hb
  obtain ⟨od, J, _⟩ := J.look
  obtain ⟨od', J', _⟩ := J'.look
  have KI := I.kIn
  have hu1 : X.A.in1.units < cLine := by
    have := hr.un
    show X.A.units + 1 < _
    omega
  have one : wpAny (model X.prog X.w) X.A (tryCompare (.ref a) (cmpInfo .NotEq).2.1 (.ref b)) (fun r s' => ∃ v, r = some v ∧ EP X pins σ Q v s') X.xe s := by
    unfold tryCompare
    refine wpAny_bind (ifBound_B KI J hn PySem.F.cmp_object.ne.bind (wpAny_call (codeAny_call_builtin PySem.F.cmp_object.ne.plain PySem.F.cmpEntry_ne
      (PySem.W.check_slot PySem.F.cmpKind_ne PySem.F.cmpSplit_ne (J.type.andThen (PySem.W.looks_mroIn KI hm)) (PySem.F.cmpArgs_ne _ _) ?_))))
    unfold Builtin.«object.__ne__»
    refine wpAny_bind (m := slotArgs "__ne__" 1 _) (wpAny_pure ?_)
    refine wpAny_bind (m := cRoomFor _ _) (wpAny_cRoomFor hu1 ?_)
    refine wpAny_bind (m := callSpecialIfBound? (.ref a) (Str.ofString "__eq__") _) (PySem.W.ifBound_K KI J hs hf (wpAny_mono (run_at F hr.in1 I.env0.frames hx I (us := [.ref a, .ref b]) (vs := [.ref a, .ref b]) (.cons rfl (.cons rfl .nil)) hsp) (fun u s' z => ?_) fun _ _ z => z))
    obtain ⟨v, H', I', rv, t, rfl, q⟩ := z
    cases rv
    refine wpAny_bind (m := truthy (.bool t)) (wpAny_truthy_bool ?_)
    first
      | exact wpAny_pure (wpAny_pure ⟨_, rfl, .bl (!t), H', I', rfl, q⟩)
      | exact wpAny_pure ⟨_, rfl, .bl (!t), H', I', rfl, q⟩
  show wpAny _ _ (richCompare .NotEq (.ref a) (.ref b)) _ _ _
  unfold richCompare
  simp only [PySem.oneThing_ref]
  refine wpAny_holding (wpAny_bind (wpAny_cRoomFor hr.units0 ?_))
  refine wpAny_bind (J.type.here (wpAny_bind (J'.type.here ?_)))
  rw [if_neg (by simp)]
  refine wpAny_bind (wpAny_pure ?_)
  simp only [Bool.false_eq_true, if_false]
  refine wpAny_bind (wpAny_mono one (fun r s' z => ?_) fun _ _ e => e)
  obtain ⟨v, rfl, hq⟩ := z
  exact wpAny_pure hq
end
/-! ### a def that returns NotImplemented -/
section
variable {P : Program} {w : World} {K : PySem.W.Frag} {mg : Str → Option Value} {base : Heap}
/-- on values of which pre holds the def at f returns NotImplemented and changes nothing -/
def NiOk (P : Program) (w : World) (K : PySem.W.Frag) (mg : Str → Option Value) (base : Heap) (k : Nat) (f : Addr) (pre : List V → Hp → Prop) : Prop :=
  ∀ (A : Around) (outer : List Env) (s : Shared) (H : Hp) (us : List Value) (vs : List V), Room k A → Env0 P w K mg base A outer s H → Vals vs us → pre vs H →
    codeAny (model P w) A (.call (.ref f) ⟨us, []⟩) (fun r s' => r = .ok (.ret .notImplemented) ∧ CE outer P w H s (fun _ H' => H' = H) .none s') s
theorem ni_def {x qual : Str} {st : Stmt} {f : Addr} {fd : FuncData} {N ps : List Str} {k : Nat} {pre : List V → Hp → Prop} {t : Expr} {els rest : List Stmt} {p2 p3 p4 : Pos} (F : Fun K x qual st f fd) (S : FnScope N ps (defScope st)) (hb : Binds K fd ps [])
    (len : ∀ vs H, pre vs H → vs.length = ps.length) (hbd : defBody st = .If t [.Return (some (.Name "NotImplemented" p2)) p3] els p4 :: rest) (hg : (defScope st).names.lookup ("NotImplemented" : Str) = some .globalImplicit) (hm : mg "NotImplemented" = none)
    (htest : ∀ (cdv : Value) (A : Around) (outer : List Env) (s : Shared) (H : Hp) (vs : List V), Room k (A.deeper (envOfC qual (defScope st) s.heap.objs.size f cdv)) → pre vs H →
      ∃ tt, PT (cxOf CX0 P w K mg base N qual (defScope st) f cdv A outer s H (fun _ _ _ => False)).nox t tt ∧ tt (start N vs) H (fun b H' => b = true ∧ H' = H)) :
    NiOk P w K mg base (k + 1) f pre := by
  intro A outer s H us vs hr e0 r hp
  have hl := len _ _ hp
  have hbind := hb s us (e0.mod.kin.keeps fun b o e => (e0.bs b o e).1) (by rw [List.append_nil, ← r.length]; exact hl)
  rw [List.append_nil] at hbind
  obtain ⟨oc, od, kV, doc, pm, an, cdv, ct, osl, rfl, lk, hcd⟩ := F.ex
  have KX : K.In s.heap := e0.mod.kin.keeps fun b o e => (e0.bs b o e).1
  have lim : s.heap.NoLimit := e0.mod.nolimit.keeps fun b o e => (e0.bs b o e).1
  have hkind : ∀ y ∈ ps.zip us, (defScope st).names.lookup y.1 = some .local ∨ ((defScope st).names.lookup y.1 = some .cell ∧ ((cellsFrom (s.heap.objs.size + 1) (defScope st).names []).lookup y.1).isSome = true) := fun ⟨n, v⟩ hy => by
    rcases S.par n (List.of_mem_zip hy).1 with q | q
    · exact .inl q
    · exact .inr ⟨q, PySem.W.cellsFrom_some _ _ _ (.inl q)⟩
  refine codeAny_call_function hr.depth (KX _ _ lk) rfl S.co S.gen rfl (PySem.W.codeRec_of KX hcd) (hbind _ _ _ _ ?_)
  refine wpAny_newFunctionEnv_cells S.kind hkind fun env he s1 x => ?_
  subst he
  refine ⟨lim.keeps x.toInCall.keep, codeAny_func ?_⟩
  obtain ⟨tt, ht, hq⟩ := htest cdv A outer s H vs (hr.deeper _) hp
  have I : L2.Inv (cxOf CX0 P w K mg base N qual (defScope st) f cdv A outer s H (fun _ _ _ => False)) [] (start N vs) H s1 := inv_start S hr.hd e0 hl r x
  rw [hbd]
  refine wpAny_execs_cons (wpAny_If (wpAny_mono (ht.run [] s1 (start N vs) H _ (I.wish _) hq) (fun b s2 h2 => ?_) fun e s' z => False.elim z))
  obtain ⟨H2, I2, rfl, rfl⟩ := h2
  refine wpAny_execs_cons (wpAny_Return_some (ld_blt I2 hg hm (u := .notImplemented) (by decide +kernel) ?_))
  exact ⟨rfl, .non, _, I2.os, I2.bare, I2.base, I2.hok, rfl, rfl⟩
end
section
variable {X : Cx} {CX : CXT} {k : Nat} {C g : Addr} {sp : Sp} {E : XK} {pre : List V → Hp → Prop}
theorem int_eq_ref (a : Int) (t : Tok) (b C dx : Addr) : Meets (Builtin.«int.__eq__» ⟨[.int a t, .ref b], []⟩) (fun _ R s => s.heap.get? b = some (PySem.W.instObj C dx) ∧ R (.ok (.ret Value.notImplemented)) s) :=
  .of_wp fun prog w A R s h => by
    obtain ⟨hp, g, d, tk, os⟩ := s
    obtain ⟨hl, h⟩ := h
    wp_walk using wpAny_load' hl
    exact ⟨_, rfl, h⟩
/-- an instance == a whole number, where the own == declines -/
def rEqI (C : Addr) (pre : List V → Hp → Prop) : R2 := fun x y H Q => ∃ a dx fs i, x = .ref a ∧ y = .int i ∧ H a = some (.ins C dx fs) ∧ pre [.ref a, .int i] H ∧ Q (.bl false) H
theorem op_eqI (N : NiOk X.prog X.w X.K X.mg X.base k g pre) (hs : PySem.W.findIn X.K (.ref C) "__eq__" = some (some (.ref g))) (hf : PySem.W.isFn X.K (.ref g) = true) (hsub : PySem.W.subIn X.K (.type "int") (.ref C) = some false)
    (hr : Room k X.A) : OpR X (compareOp .Eq) (rEqI C pre) := by
  intro pins s σ H x y v u Q I rx ry h
  obtain ⟨a, dx, fs, i, rfl, rfl, ha, hp, q⟩ := h
  cases rx
  obtain ⟨t, rfl⟩ := ry
  obtain ⟨mA, J, _⟩ := ins_get I.hok ha
  obtain ⟨od, J, _⟩ := J.look
  have KI := I.kIn
  show wpAny _ _ (richCompare .Eq (.ref a) (.int i t)) _ _ _
  unfold richCompare
  simp only [PySem.oneThing_ref]
  refine wpAny_holding (wpAny_bind (wpAny_cRoomFor hr.units0 ?_))
  refine wpAny_bind (J.type.here (wpAny_bind ((PySem.W.Looks.of_pure (M := model X.prog X.w) (h := s.heap) (show typeOf (.int i t) = pure (.type "int") from rfl)).here ?_)))
  have hne : (Value.ref C != Value.type "int") = true := by
    have z : (Value.ref C == Value.type "int") = false := Bool.eq_false_iff.mpr fun q => by cases beq_iff_eq.mp q
    show (!(Value.ref C == Value.type "int")) = true
    rw [z]; rfl
  rw [if_pos hne]
  refine wpAny_bind ((PySem.W.looks_subIn KI hsub).here ?_)
  simp only [Bool.false_eq_true, if_false]
  refine wpAny_bind (m := tryCompare (.ref a) _ (.int i t)) ?_
  unfold tryCompare
  have cl : wpAny (model X.prog X.w) X.A (call (.ref g) [.ref a, .int i t]) (fun u s' => u = .notImplemented ∧ L2.Inv X pins σ H s') X.xe s := by
    refine wpAny_call (codeAny_mono (N X.A X.stack s H [.ref a, .int i t] [.ref a, .int i] hr I.env0 (.cons rfl (.cons ⟨t, rfl⟩ .nil)) hp) fun r s' z => ?_)
    obtain ⟨rfl, z⟩ := z
    obtain ⟨v, H', I', rv, e⟩ := I.after z
    rw [e] at I'
    exact ⟨rfl, I'⟩
  refine wpAny_bind (PySem.W.ifBound_K KI J hs hf (wpAny_mono cl (fun u s' z => ?_) fun _ _ z => z))
  obtain ⟨rfl, I'⟩ := z
  refine wpAny_pure ?_
  obtain ⟨mA', J', _⟩ := ins_get I'.hok ha
  obtain ⟨od', J', _⟩ := J'.look
  dsimp only
  refine wpAny_bind (m := tryCompare (.int i t) _ (.ref a)) ?_
  refine wpAny_tryCompare_declines (typeIs_int _ i t) PySem.F.slot_int_eq (call_meets PySem.F.slot_int_eq (typeIs_int _ i t) PySem.F.entry_int_eq (PySem.F.args_int_eq_2 _ _) (int_eq_ref i t a C dx) ⟨J'.at_, rfl, ?_⟩)
  dsimp only
  refine wpAny_bind (wpAny_rule (wpAny_bind (wpAny_isSame_plain (by rfl) (wpAny_pure ?_))))
  have z : (Value.ref a == Value.int i t) = false := Bool.eq_false_iff.mpr fun q => by cases beq_iff_eq.mp q
  rw [z]
  exact ⟨.bl false, H, I', rfl, q⟩
end
/-! ### x(e, ..) and x(), x a local name that holds an instance -/
section
variable {X : Cx} {CX : CXT} {k i : Nat} {C g : Addr} {sp : Sp} {E : XK} {x : Str} {e : Expr} {es : List Expr} {t : TA} {p pos : Pos}
theorem run_ins {pins : List (Addr × Obj)} {σ : L2.St} {H : Hp} {s : Shared} {Q : VK} {a dx : Addr} {fs : List (Str × V)} {us : List Value} {vs : List V} (c : StX.CallO X.K C g) (F : FnR X.prog X.w X.K X.mg X.base CX k g sp) (hr : Room k X.A) (hx : Passes CX X E) (I : L2.Inv X pins σ H s)
    (ha : H a = some (.ins C dx fs)) (r : Vals vs us) (h : sp (V.ref a :: vs) H Q E) : wpAny (model X.prog X.w) X.A (call (.ref a) us) (EP X pins σ Q) X.xe s := by
  obtain ⟨mA, J, _⟩ := ins_get I.hok ha
  obtain ⟨od, J, _⟩ := J.look
  exact wpAny_call (PySem.W.kco_code I.kIn J rfl c.at_ c.fn c.fi (run_fnR (us := .ref a :: us) (vs := .ref a :: vs) F hr hx I (.cons rfl r) h))
def tCallI (i : Nat) (C : Addr) (sp : Sp) (E : XK) (t : TA) : TE := fun σ H Q => ∃ a, σ[i]? = some (some (.ref a)) ∧ t σ H fun vs H1 => (∃ dx fs, H1 a = some (.ins C dx fs)) ∧ sp (V.ref a :: vs) H1 Q E
theorem pe_callI (c : StX.CallO X.K C g) (F : FnR X.prog X.w X.K X.mg X.base CX k g sp) (hr : Room k X.A) (hx : Passes CX X E) (hN : X.N[i]? = some x) (hv : Vis X.env.scope x) (ha : PA X (e :: es) t)
    (hd : (x == ("__debug__" : Str)) = false := by decide) (hcd : (x == ("__classdict__" : Str)) = false := by decide)
    (he : starEach (e :: es) X.env = (false, eval e X.env) :: starEach es X.env := by rfl) (hpl : (backTo pos (starEach es X.env)).any (·.1) = false := by rfl) : PE X (.Call (.Name x p) (e :: es) [] pos) (tCallI i C sp E t) := by
  refine ⟨fun pins s σ H Q I h => ?_⟩
  obtain ⟨a, hs, h⟩ := h
  refine wpAny_Call_Name_kw (thn ((pe_var (pos := p) (i := i) hN hv hd hcd).run pins s σ H (fun v H1 => v = .ref a ∧ H1 = H) I ⟨.ref a, hs, rfl, rfl⟩) fun u s1 ⟨v, H1, I1, r1, ev, eH⟩ => ?_)
  subst ev
  rw [eH] at I1
  cases r1
  refine StX.callO_with (thn (ha.run pos pins s1 σ H _ I1 h) fun us s2 ⟨vs, H2, I2, r, ⟨dx, fs, hi⟩, q2⟩ => ?_) he hpl
  obtain ⟨mA, J, _⟩ := ins_get I2.hok hi
  obtain ⟨od, J, _⟩ := J.look
  exact ⟨⟨C, _, _, J, rfl⟩, run_ins c F hr hx I2 hi r q2⟩
theorem pe_callI0 (c : StX.CallO X.K C g) (F : FnR X.prog X.w X.K X.mg X.base CX k g sp) (hr : Room k X.A) (hx : Passes CX X E) (hN : X.N[i]? = some x) (hv : Vis X.env.scope x)
    (hd : (x == ("__debug__" : Str)) = false := by decide) (hcd : (x == ("__classdict__" : Str)) = false := by decide) : PE X (.Call (.Name x p) [] [] pos) (tCallI i C sp E tNil) := by
  refine ⟨fun pins s σ H Q I h => ?_⟩
  obtain ⟨a, hs, ⟨dx, fs, hi⟩, h⟩ := h
  refine wpAny_Call_Name_kw (thn ((pe_var (pos := p) (i := i) hN hv hd hcd).run pins s σ H (fun v H1 => v = .ref a ∧ H1 = H) I ⟨.ref a, hs, rfl, rfl⟩) fun u s1 ⟨v, H1, I1, r1, ev, eH⟩ => ?_)
  subst ev
  rw [eH] at I1
  cases r1
  obtain ⟨mA, J, _⟩ := ins_get I1.hok hi
  obtain ⟨od, J, _⟩ := J.look
  exact PySem.W.kco_callWith0 (K := X.K) I1.kIn J rfl c.at_ (run_ins (us := []) c F hr hx I1 hi .nil h)
end
end Own

namespace Own
open PySem PySem.Spec PyProof.Rows L2
/-- a promise told of the values as they come -/
theorem fnr_of {P : Program} {w : World} {K : PySem.W.Frag} {mg : Str → Option Value} {base : Heap} {CX : CXT} {k : Nat} {f : Addr} {fd : FuncData} {ps : List Str} {sp : Sp} {dvs : List V} {ds : List Value} (G : FnOk P w K mg base CX k f fd ps sp) (hb : Binds K fd ps ds) (hd : Vals dvs ds) :
    FnR P w K mg base CX k f (fun vs H Q E => sp (vs ++ dvs) H Q E) := fun A outer s H us vs Q E hr e0 r h => by
  have KX : K.In s.heap := e0.mod.kin.keeps fun b o e => (e0.bs b o e).1
  have hl : (us ++ ds).length = ps.length := by
    have e := (r.append hd).length
    rw [G.len _ _ _ _ h] at e
    exact e.symm
  exact G.run A outer s H ⟨us, []⟩ (us ++ ds) (vs ++ dvs) Q E hr e0 (hb s us KX hl) (r.append hd) h
theorem fnr0 {P : Program} {w : World} {K : PySem.W.Frag} {mg : Str → Option Value} {base : Heap} {CX : CXT} {k : Nat} {f : Addr} {fd : FuncData} {ps : List Str} {sp : Sp} (G : FnOk P w K mg base CX k f fd ps sp) (hb : Binds K fd ps []) :
    FnR P w K mg base CX k f sp := (fnr_of G hb .nil).imp fun vs H Q E h => by rw [List.append_nil]; exact h
section
variable {X : Cx} {CX : CXT} {k i : Nat} {C g f : Addr} {sp : Sp} {E : L2.St → XK} {x : Str} {e a b : Expr} {es : List Expr} {t : TA} {ta tb : TE} {p pos : Pos} {fd : FuncData} {ps : List Str} {dvs : List V} {ds : List Value}
theorem run_fnRS {pins : List (Addr × Obj)} {σ : L2.St} {H : Hp} {s : Shared} {Q : VK} {us : List Value} {vs : List V} (F : FnR X.prog X.w X.K X.mg X.base CX k g sp) (hr : Room k X.A) (hx : PassesAt CX X σ (E σ)) (I : L2.Inv X pins σ H s) (r : Vals vs us) (h : sp vs H Q (E σ)) :
    codeAny (model X.prog X.w) X.A (.call (.ref g) ⟨us, []⟩) (fun r s' => match r with | .ok (.ret v) => EP X pins σ Q v s' | .ok _ => False | .error e => X.xe e s') s := by
  refine codeAny_mono (F X.A X.stack s H us vs Q (E σ) hr I.env0 r h) fun r s' hq => ?_
  cases r with
  | error e => exact hx pins H s e s' I hq
  | ok fl =>
    cases fl with
    | ret u => exact I.after hq
    | next => exact False.elim hq
    | brk => exact False.elim hq
    | cont => exact False.elim hq
/-- a + b of two instances of one own class -/
theorem pe_binS {op : Operator} (F : FnR X.prog X.w X.K X.mg X.base CX k g sp) (hs : PySem.W.findIn X.K (.ref C) (PySem.dunder op.info.2) = some (some (.ref g))) (hf : PySem.W.isFn X.K (.ref g) = true) (hc : PySem.W.selfFirst X.K C = true) (hr : Room k X.A)
    (hx : ∀ σ, PassesAt CX X σ (E σ)) (ha : PE X a ta) (hb : PE X b tb) : PE X (.BinOp a op b pos) (fun σ H Q => ta σ H fun x H1 => tb σ H1 fun y H2 => rOwn C sp (E σ) x y H2 Q) := by
  refine ⟨fun pins s σ H Q I h => ?_⟩
  have h' : tOp (fun x y H2 Q => rOwn C sp (E σ) x y H2 Q) ta tb σ H Q := h
  refine wpAny_BinOp (binT ha hb I h' fun v u s2 x y H2 I2 rx ry q => ?_)
  obtain ⟨a, b, dx, dy, fs, gs, rfl, rfl, ha, hb, hsp⟩ := q
  cases rx
  cases ry
  obtain ⟨mA, J, _⟩ := ins_get I2.hok ha
  obtain ⟨mB, J', _⟩ := ins_get I2.hok hb
  obtain ⟨od, J, _⟩ := J.look
  obtain ⟨od', J', _⟩ := J'.look
  obtain ⟨m, hF⟩ := I2.fr
  refine PySem.W.binop_K (op := op) hF I2.ok.mod.kin J J'.type hc hs hf ?_
  exact wpAny_mono (wpAny_call (run_fnRS F hr (hx σ) I2 (us := [.ref a, .ref b]) (vs := [.ref a, .ref b]) (.cons rfl (.cons rfl .nil)) hsp)) (fun _ _ z => back z) fun _ _ z => z
/-- C(e, ..) whose __init__ may raise -/
structure MkS (C : Addr) (sp : Sp) (E : XK) (vs : List V) (H1 : Hp) (Q : VK) : Prop where
  run : ∀ x dx, H1 x = Option.none → H1 dx = Option.none → dx ≠ x → sp (V.ref x :: vs) (upd (upd H1 dx (.own x)) x (.ins C dx [])) (fun v H2 => v = .non ∧ Q (.ref x) H2) E
def tMakeS (C : Addr) (sp : Sp) (E : L2.St → XK) (t : TA) : TE := fun σ H Q => t σ H fun vs H1 => MkS C sp (E σ) vs H1 Q
theorem pe_makeS (M : Mk X.K C f) (F : FnR X.prog X.w X.K X.mg X.base CX k f sp) (hr : Room (k + 1) X.A) (hg : Gl X x) (hm : X.mg x = some (.ref C)) (hx : ∀ σ, PassesAt CX X σ (E σ)) (ha : PA X (e :: es) t) (hdb : (x == ("__debug__" : Str)) = false := by decide)
    (he : starEach (e :: es) X.env = (false, eval e X.env) :: starEach es X.env := by rfl) (hpl : (backTo pos (starEach es X.env)).any (·.1) = false := by rfl) : PE X (.Call (.Name x p) (e :: es) [] pos) (tMakeS C sp E t) := by
  refine ⟨fun pins s σ H Q I h => ?_⟩
  refine wpAny_Call_Name_kw (ld_glob I hg hm ?_ hdb)
  refine PySem.W.callWith_K (h₀ := X.base) I.ok.mod.kin M.kp (thn (ha.run pos pins s σ H _ I h) fun us s1 ⟨vs, H1, I1, r, q⟩ => ⟨I1.kIn, ?_⟩) he hpl
  have hq := q.run (s1.heap.objs.size + 1) s1.heap.objs.size (I1.hok.fresh (Nat.le_succ _)) (I1.hok.fresh (Nat.le_refl _)) (Nat.ne_of_lt (Nat.lt_succ_self _))
  have I2 := Inv.made (C := C) I1
  have r2 : Vals (V.ref (s1.heap.objs.size + 1) :: vs) (Value.ref (s1.heap.objs.size + 1) :: us) := .cons rfl r
  refine wpAny_call (make_map (f := f) I1.kIn M.makes M.init (beq_iff_eq.mp M.fn) (codeAny_mono (F _ X.stack _ _ (Value.ref (s1.heap.objs.size + 1) :: us) _ _ (E σ) (hr.make C us []) (I2.env0.make C us []) r2 hq) fun r s' hq' => ?_))
  cases r with
  | error e => exact hx σ pins _ _ e s' I2 hq'
  | ok fl =>
    cases fl with
    | ret u =>
      obtain ⟨v, H', I3, rv, ev, q3⟩ := I2.after hq'
      subst ev
      exact ⟨rv, ⟨V.ref (s1.heap.objs.size + 1), H', I3, rfl, q3⟩⟩
    | next => exact False.elim hq'
    | brk => exact False.elim hq'
    | cont => exact False.elim hq'
def tCallIS (i : Nat) (C : Addr) (sp : Sp) (E : L2.St → XK) (t : TA) : TE := fun σ H Q => ∃ a, σ[i]? = some (some (.ref a)) ∧ t σ H fun vs H1 => (∃ dx fs, H1 a = some (.ins C dx fs)) ∧ sp (V.ref a :: vs) H1 Q (E σ)
theorem run_insS {pins : List (Addr × Obj)} {σ : L2.St} {H : Hp} {s : Shared} {Q : VK} {a dx : Addr} {fs : List (Str × V)} {us : List Value} {vs : List V} (c : StX.CallO X.K C g) (F : FnR X.prog X.w X.K X.mg X.base CX k g sp) (hr : Room k X.A) (hx : PassesAt CX X σ (E σ)) (I : L2.Inv X pins σ H s)
    (ha : H a = some (.ins C dx fs)) (r : Vals vs us) (h : sp (V.ref a :: vs) H Q (E σ)) : wpAny (model X.prog X.w) X.A (call (.ref a) us) (EP X pins σ Q) X.xe s := by
  obtain ⟨mA, J, _⟩ := ins_get I.hok ha
  obtain ⟨od, J, _⟩ := J.look
  exact wpAny_call (PySem.W.kco_code I.kIn J rfl c.at_ c.fn c.fi (run_fnRS (us := .ref a :: us) (vs := .ref a :: vs) F hr hx I (.cons rfl r) h))
theorem pe_callIS (c : StX.CallO X.K C g) (F : FnR X.prog X.w X.K X.mg X.base CX k g sp) (hr : Room k X.A) (hx : ∀ σ, PassesAt CX X σ (E σ)) (hN : X.N[i]? = some x) (hv : Vis X.env.scope x) (ha : PA X (e :: es) t)
    (hd : (x == ("__debug__" : Str)) = false := by decide) (hcd : (x == ("__classdict__" : Str)) = false := by decide)
    (he : starEach (e :: es) X.env = (false, eval e X.env) :: starEach es X.env := by rfl) (hpl : (backTo pos (starEach es X.env)).any (·.1) = false := by rfl) : PE X (.Call (.Name x p) (e :: es) [] pos) (tCallIS i C sp E t) := by
  refine ⟨fun pins s σ H Q I h => ?_⟩
  obtain ⟨a, hs, h⟩ := h
  refine wpAny_Call_Name_kw (thn ((pe_var (pos := p) (i := i) hN hv hd hcd).run pins s σ H (fun v H1 => v = .ref a ∧ H1 = H) I ⟨.ref a, hs, rfl, rfl⟩) fun u s1 ⟨v, H1, I1, r1, ev, eH⟩ => ?_)
  subst ev
  rw [eH] at I1
  cases r1
  refine StX.callO_with (thn (ha.run pos pins s1 σ H _ I1 h) fun us s2 ⟨vs, H2, I2, r, ⟨dx, fs, hi⟩, q2⟩ => ?_) he hpl
  obtain ⟨mA, J, _⟩ := ins_get I2.hok hi
  obtain ⟨od, J, _⟩ := J.look
  exact ⟨⟨C, _, _, J, rfl⟩, run_insS c F hr (hx σ) I2 hi r q2⟩
theorem pe_callIS0 (c : StX.CallO X.K C g) (F : FnR X.prog X.w X.K X.mg X.base CX k g sp) (hr : Room k X.A) (hx : ∀ σ, PassesAt CX X σ (E σ)) (hN : X.N[i]? = some x) (hv : Vis X.env.scope x)
    (hd : (x == ("__debug__" : Str)) = false := by decide) (hcd : (x == ("__classdict__" : Str)) = false := by decide) : PE X (.Call (.Name x p) [] [] pos) (tCallIS i C sp E tNil) := by
  refine ⟨fun pins s σ H Q I h => ?_⟩
  obtain ⟨a, hs, ⟨dx, fs, hi⟩, h⟩ := h
  refine wpAny_Call_Name_kw (thn ((pe_var (pos := p) (i := i) hN hv hd hcd).run pins s σ H (fun v H1 => v = .ref a ∧ H1 = H) I ⟨.ref a, hs, rfl, rfl⟩) fun u s1 ⟨v, H1, I1, r1, ev, eH⟩ => ?_)
  subst ev
  rw [eH] at I1
  cases r1
  obtain ⟨mA, J, _⟩ := ins_get I1.hok hi
  obtain ⟨od, J, _⟩ := J.look
  exact PySem.W.kco_callWith0 (K := X.K) I1.kIn J rfl c.at_ (run_insS (us := []) c F hr (hx σ) I1 hi .nil h)
end
end Own

/-! def f(self, **d): the keywords of a call, as a dict. -/
namespace KwX
open PySem PySem.Spec PyProof.Rows L2 StX
open PySem.W (dictOf kwEs)
section
variable {prog : Program} {w : World} {A : Around} {E : Value → Shared → Prop}
theorem set_at {s : Shared} {d : Addr} {es : List DictEntry} {n : Nat} {k : Str} {v : Value} {Q : Unit → Shared → Prop} (D : s.heap.get? d = some (dictOf es n)) (hs : ∀ e ∈ es, e.key.isStr k = false) (hr : ∀ e ∈ es, e.refKey = false)
    (h : ∀ h', h'.get? d = some (dictOf (es ++ [⟨PyData.keyHash w.params k, .str k s.toks, v⟩]) (n + 1)) → (∀ b, b ≠ d → h'.get? b = s.heap.get? b) → h'.objs.size = s.heap.objs.size → Q () { s with heap := h', toks := s.toks + 1 }) :
    wpAny (model prog w) A (nsSet d k v) Q E s := by
  have none_of : ∀ {p : DictEntry → Bool}, (∀ e ∈ es, p e = false) → es.any p = false := fun {p} hp => by
    cases q : es.any p with
    | false => rfl
    | true =>
      obtain ⟨e, he, z⟩ := List.any_eq_true.mp q
      rw [hp e he] at z
      cases z
  have e1 := none_of hs
  have e2 := none_of hr
  have e : Obj.putName k (PyData.keyHash w.params k) (.str k s.toks) v (dictOf es n) = dictOf (es ++ [⟨PyData.keyHash w.params k, .str k s.toks, v⟩]) (n + 1) := by
    rw [PySem.W.putName_dict, PySem.W.putL_new hs]
    show dictOf _ (if es.any (·.key.isStr k) then n else n + 1) = _
    rw [e1, if_neg Bool.false_ne_true]
  have c : aRefKeyMayBeTheName k es.toArray = false := by
    rw [aRefKeyMayBeTheName_at, ← Array.any_toList, ← Array.any_toList]
    show (!es.any (·.key.isStr k) && es.any (·.refKey)) = false
    rw [e2, Bool.and_false]
  unfold nsSet
  refine wpAny_bind (wpAny_bind (wpAny_askSetting (wpAny_pure (wpAny_bind (wpAny_mkText (wpAny_bind (wpAny_loadPart D ?_)))))))
  dsimp only
  rw [c]
  refine wpAny_updatePart D (h _ ?_ (fun b hb => ?_) (Heap.size_update _ _ _))
  · have q : (Obj.putName k (PyData.keyHash w.params k) (.str k s.toks) v (dictOf es n)).isFreed = false := (congrArg Obj.isFreed e).trans rfl
    exact (Heap.get?_update_self _ D q).trans (congrArg some e)
  · exact Heap.get?_update_other _ _ (Ne.symm hb)
theorem fill_at {d : Addr} {Q : PUnit → Shared → Prop} : ∀ (ex : List (Str × Value)) (s : Shared) (es : List DictEntry) (n : Nat), s.heap.get? d = some (dictOf es n) →
    (∀ e ∈ es, ∀ x ∈ ex, e.key.isStr x.1 = false) → (∀ e ∈ es, e.refKey = false) → (ex.map (·.1)).Nodup →
    (∀ h' tk, h'.get? d = some (dictOf (es ++ kwEs w.params s.toks ex) (n + ex.length)) → (∀ b, b ≠ d → h'.get? b = s.heap.get? b) → h'.objs.size = s.heap.objs.size → Q ⟨⟩ { s with heap := h', toks := tk }) →
    wpAny (model prog w) A (forIn ex PUnit.unit fun x _ => (nsSet d x.1 x.2 >>= fun _ => pure (ForInStep.yield PUnit.unit))) Q E s
  | [], s, es, n, D, _, _, _, h => by
    rw [List.forIn_nil]
    refine wpAny_pure (h s.heap s.toks ?_ (fun _ _ => rfl) rfl)
    show s.heap.get? d = some (dictOf (es ++ []) n)
    rw [List.append_nil]
    exact D
  | x :: r, s, es, n, D, hs, hr, hn, h => by
    obtain ⟨hn1, hn2⟩ := List.nodup_cons.mp (show (x.1 :: r.map (·.1)).Nodup from hn)
    rw [List.forIn_cons]
    refine wpAny_bind (wpAny_bind (set_at D (fun e he => hs e he x (.head _)) hr fun h' D' ho hz => wpAny_pure ?_))
    show wpAny (model prog w) A (forIn r PUnit.unit fun x _ => (nsSet d x.1 x.2 >>= fun _ => pure (ForInStep.yield PUnit.unit))) Q E { s with heap := h', toks := s.toks + 1 }
    refine fill_at r { s with heap := h', toks := s.toks + 1 } _ _ D' (fun e he y hy => ?_) (fun e he => ?_) hn2 fun h'' tk D'' ho' hz' => ?_
    · rcases List.mem_append.mp he with he | he
      · exact hs e he y (.tail _ hy)
      · obtain rfl := List.mem_singleton.mp he
        show (x.1 == y.1) = false
        exact beq_eq_false_iff_ne.mpr fun q => hn1 (by rw [q]; exact List.mem_map_of_mem hy)
    · rcases List.mem_append.mp he with he | he
      · exact hr e he
      · obtain rfl := List.mem_singleton.mp he
        rfl
    · refine h h'' tk ?_ (fun b hb => (ho' b hb).trans (ho b hb)) (hz'.trans hz)
      have t2 : n + 1 + r.length = n + (r.length + 1) := by omega
      rw [t2, List.append_assoc] at D''
      exact D''
/-- the entries, as the hand layer's dicts tell them -/
theorem pairs_mix : ∀ (ex : List (Str × Value)) (t : Tok), Pairs (mixKind prog w) (kwEs w.params t ex) (ex.map fun x => (.inr x.1, x.2))
  | [], _ => Pairs.nil
  | x :: r, t => Pairs.cons (mixKind_str prog w x.1 t) rfl (pairs_mix r (t + 1))
theorem dict_mix {h : Heap} {d : Addr} {ex : List (Str × Value)} {t : Tok} {n : Nat} (hn : (ex.map (·.1)).Nodup) (D : h.get? d = some (dictOf (kwEs w.params t ex) n)) : h.DictOf (mixKind prog w) d (ex.map fun x => (.inr x.1, x.2)) := by
  refine ⟨_, (kwEs w.params t ex).toArray, n, D, ⟨rfl, rfl, rfl⟩, rfl, fun e he => ?_, pairs_mix ex t, ?_⟩
  · obtain ⟨k, u, hk, hh⟩ := PySem.W.kwEs_key ex t e (List.mem_toArray.mp he)
    exact ⟨.inr k, by rw [hk]; exact mixKind_str prog w k u, hh.trans rfl⟩
  · rw [List.map_map]
    have e : ((fun x : Key × Value => x.1) ∘ fun x : Str × Value => ((.inr x.1 : Key), x.2)) = (Sum.inr : Str → Key) ∘ (·.1) := rfl
    rw [e, ← List.map_map]
    exact List.Pairwise.map _ (fun a b hab z => hab (Sum.inr.inj z)) hn
end
/-- the dict of the keywords ks with these values -/
def kwD (ks : List Str) (zs : List V) : List (Key × V) := (ks.zip zs).map fun p => (.inr p.1, p.2)
theorem kv_zip : ∀ {ks : List Str} {zs : List V} {ws : List Value}, Vals zs ws → KV (kwD ks zs) ((ks.zip ws).map fun x => (.inr x.1, x.2))
  | [], _, _, _ => .nil
  | _ :: _, _, _, .nil => .nil
  | _ :: ks, _, _, .cons r rr => .cons ⟨rfl, r⟩ (kv_zip (ks := ks) rr)
/-- what a def with **d makes of a call with the keywords ks -/
def FnKw (P : Program) (w : World) (K : PySem.W.Frag) (mg : Str → Option Value) (base : Heap) (CX : CXT) (k : Nat) (f : Addr) (ks : List Str) (sp : Sp) : Prop :=
  ∀ (A : Around) (outer : List Env) (s : Shared) (H : Hp) (us ws : List Value) (vs zs : List V) (Q : VK) (E : XK), Room k A → Env0 P w K mg base A outer s H → Vals vs us → Vals zs ws → zs.length = ks.length →
    (∀ d, H d = none → sp (vs ++ [.ref d]) (upd H d (.dK (kwD ks zs))) Q E) → codeAny (model P w) A (.call (.ref f) ⟨us, ks.zip ws⟩) (CR CX outer P w H s Q E) s
section
variable {CX : CXT} {P : Program} {w : World} {K : PySem.W.Frag} {mg : Str → Option Value} {base : Heap} {k : Nat} {f : Addr} {name qual : Str} {params : Arguments} {body : List Stmt} {scope : Scope} {dV kV doc pm cdv ct oc : Value} {an od : Option Addr}
  {osl : Array (Option Value)} {N ps : List Str} {sp : Sp}
theorem fn_kw {pd : Str} {ks : List Str} (lk : K.lookup f = some ⟨oc, od, .func (PySem.W.fnOf name qual params body scope dV kV doc pm an cdv ct), osl⟩) (hcd : PySem.W.codeIn K cdv qual = true) (S : FnScope N (ps ++ [pd]) scope) (hCX : CXUp CX) (hks : ks.Nodup) (hk60 : ks.length ≤ 60)
    (len : ∀ vs H Q E, sp vs H Q E → vs.length = ps.length + 1)
    (hb : ∀ us ws : List Value, us.length = ps.length → ws.length = ks.length → bindArgs (PySem.W.fnOf name qual params body scope dV kV doc pm an cdv ct) ⟨us, ks.zip ws⟩ =
      ((alloc ({ cls := .type "dict", data := .dict #[] } : Obj) : Sem Addr) >>= fun d => (forIn (ks.zip ws) PUnit.unit fun x _ => (nsSet d x.1 x.2 >>= fun _ => pure (ForInStep.yield PUnit.unit))) >>= fun _ => pure (ps.zip us ++ [(pd, Value.ref d)])))
    (hbody : ∀ (A : Around) (outer : List Env) (s : Shared) (H : Hp) (vs : List V) (Q : VK) (E : XK), Room k (A.deeper (envOfC qual scope s.heap.objs.size f cdv)) → sp vs H Q E →
      ∃ t, PSs (cxOf CX P w K mg base N qual scope f cdv A outer s H E) body t ∧ t { nx := fun _ H' => Q .non H', rt := Q } (start N vs) H) : FnKw P w K mg base CX (k + 1) f ks sp := by
  intro A outer s H us ws vs zs Q E hr e0 r rz hz hq
  have hn : H s.heap.objs.size = none := e0.hok.fresh (Nat.le_refl _)
  have hl : vs.length = ps.length := by
    have e := len _ _ _ _ (hq _ hn)
    rw [List.length_append] at e
    exact Nat.succ.inj e
  have hl1 : us.length = ps.length := by rw [← r.length]; exact hl
  have hl2 : ws.length = ks.length := by rw [← rz.length]; exact hz
  refine run_bnd lk hcd S hr e0 (G := fun xs H2 => ∃ d, H d = none ∧ xs = vs ++ [V.ref d] ∧ H2 = upd H d (.dK (kwD ks zs))) (fun A' Ex Q' h => ?_) fun s2 H2 xs ⟨d, hd, ex, eH⟩ hr' => ?_
  · rw [hb us ws hl1 hl2]
    have D0 : (s.heap.push ({ cls := .type "dict", data := .dict #[] } : Obj)).get? s.heap.objs.size = some (dictOf [] 0) := Heap.get?_push_size _ rfl
    have nd : ((ks.zip ws).map (·.1)).Nodup := by
      have e : (ks.zip ws).map (·.1) = ks := List.map_fst_zip (by omega)
      rw [e]
      exact hks
    refine wpAny_bind (wpAny_alloc (wpAny_bind (fill_at (ks.zip ws) _ [] 0 D0 (fun _ he => nomatch he) (fun _ he => nomatch he) nd fun h' tk D' ho hsz => wpAny_pure ?_)))
    have kp : ∀ b o, s.heap.get? b = some o → h'.get? b = some o := fun b o e => by
      have n := Nat.ne_of_lt (Heap.lt_size e)
      rw [ho b n]
      exact Heap.get?_push_of_some _ e
    have new : ObjOk P w (upd H s.heap.objs.size (.dK (kwD ks zs))) h' s.heap.objs.size (.dK (kwD ks zs)) := by
      refine ⟨?_, ?_, _, kv_zip rz, dict_mix nd D'⟩
      · unfold kwD
        rw [List.length_map, List.length_zip, hz, Nat.min_self, sizeLine_eq]
        omega
      · exact beq_eq_false_iff_ne.mpr (Nat.ne_of_gt (env0_big e0))
    have e1 : Env0 P w K mg base A outer { s with heap := h', toks := tk } (upd H s.heap.objs.size (.dK (kwD ks zs))) := by
      refine ⟨e0.frames, e0.mod, fun b x e => ⟨kp b x (e0.bs b x e).1, ?_⟩, ?_, Heap.FunFrames.of_keeps (fun b x e _ => ⟨x, kp b x e, rfl⟩) e0.funs, fun b hb => ?_, e0.hok.laid kp (Nat.le_refl _) new, e0.bare⟩
      · rw [upd_ne (Nat.ne_of_lt (Heap.lt_size (e0.bs b x e).1))]
        exact (e0.bs b x e).2
      · show base.objs.size ≤ h'.objs.size
        rw [hsz, Heap.size_push]
        exact Nat.le_succ_of_le e0.bsz
      · obtain ⟨_, x, hx, _⟩ := e0.funs.mem hb
        rw [upd_ne (Nat.ne_of_lt (Heap.lt_size hx))]
        exact e0.frf b hb
    have un : Un (frs outer) [] H (upd H s.heap.objs.size (.dK (kwD ks zs))) s.heap h' := Un.laid kp (Nat.le_refl _) hn
    have z := h _ _ (vs ++ [V.ref s.heap.objs.size]) (us ++ [Value.ref s.heap.objs.size]) e1 un rfl (fun e s' => hCX outer s H _ _ E e s' un kp rfl) (r.append (.cons rfl .nil)) (by rw [List.length_append, List.length_append, hl] <;> rfl) ⟨_, hn, rfl, rfl⟩
    rw [List.zip_append hl1.symm] at z
    exact z
  · subst ex eH
    exact hbody A outer s2 _ _ Q E hr' (hq d hd)
end
/-- C(k = v, ..) where __init__ takes **d -/
structure MkW (C : Addr) (ks : List Str) (sp : Sp) (E : XK) (zs : List V) (H1 : Hp) (Q : VK) : Prop where
  len : zs.length = ks.length
  run : ∀ x dx d, H1 x = none → H1 dx = none → dx ≠ x → H1 d = none → d ≠ x → d ≠ dx → sp [.ref x, .ref d] (upd (upd (upd H1 dx (.own x)) x (.ins C dx [])) d (.dK (kwD ks zs))) (fun v H2 => v = .non ∧ Q (.ref x) H2) E
def tMakeW (C : Addr) (ks : List Str) (sp : Sp) (E : L2.St → XK) (tk : TA) : TE := fun σ H Q => tk σ H fun zs H1 => MkW C ks sp (E σ) zs H1 Q
section
variable {X : Cx} {CX : CXT} {k : Nat} {f C : Addr} {ks : List Str} {sp : Sp} {E : L2.St → XK} {x : Str} {p pos : Pos} {kws : List Keyword} {tk : TA}
theorem run_makeW {pins : List (Addr × Obj)} {σ : L2.St} {H : Hp} {s : Shared} {Q : VK} {ws : List Value} {zs : List V} (M : Mk X.K C f) (F : FnKw X.prog X.w X.K X.mg X.base CX k f ks sp) (hr : Room (k + 1) X.A) (hx : PassesAt CX X σ (E σ))
    (I : L2.Inv X pins σ H s) (rz : Vals zs ws) (h : MkW C ks sp (E σ) zs H Q) : wpAny (model X.prog X.w) X.A (call (.ref C) [] (ks.zip ws)) (EP X pins σ Q) X.xe s := by
  have nx : H (s.heap.objs.size + 1) = none := I.hok.fresh (Nat.le_succ _)
  have ndx : H s.heap.objs.size = none := I.hok.fresh (Nat.le_refl _)
  have nn : s.heap.objs.size ≠ s.heap.objs.size + 1 := Nat.ne_of_lt (Nat.lt_succ_self _)
  have I2 := Inv.made (C := C) I
  have hd0 : ∀ d, upd (upd H s.heap.objs.size (.own (s.heap.objs.size + 1))) (s.heap.objs.size + 1) (.ins C s.heap.objs.size []) d = none → sp ([V.ref (s.heap.objs.size + 1)] ++ [.ref d]) (upd (upd (upd H s.heap.objs.size (.own (s.heap.objs.size + 1))) (s.heap.objs.size + 1) (.ins C s.heap.objs.size [])) d (.dK (kwD ks zs)))
      (fun v H2 => v = .non ∧ Q (.ref (s.heap.objs.size + 1)) H2) (E σ) := fun d hd => by
    have n1 : d ≠ s.heap.objs.size + 1 := fun z => by
      rw [z, upd_same] at hd
      cases hd
    have n2 : d ≠ s.heap.objs.size := fun z => by
      rw [z, upd_ne nn, upd_same] at hd
      cases hd
    rw [upd_ne n1, upd_ne n2] at hd
    exact h.run _ _ d nx ndx nn hd n1 n2
  refine wpAny_call (make_map (f := f) I.kIn M.makes M.init (beq_iff_eq.mp M.fn) (codeAny_mono (F _ X.stack _ _ [Value.ref (s.heap.objs.size + 1)] ws [V.ref (s.heap.objs.size + 1)] zs _ (E σ) (hr.make C [] (ks.zip ws)) (I2.env0.make C [] (ks.zip ws)) (.cons rfl .nil) rz h.len hd0) fun r s' hq' => ?_))
  cases r with
  | error e => exact hx pins _ _ e s' I2 hq'
  | ok fl =>
    cases fl with
    | ret u =>
      obtain ⟨v, H', I3, rv, ev, q3⟩ := I2.after hq'
      subst ev
      exact ⟨rv, ⟨V.ref (s.heap.objs.size + 1), H', I3, rfl, q3⟩⟩
    | next => exact False.elim hq'
    | brk => exact False.elim hq'
    | cont => exact False.elim hq'
theorem pe_makeW (M : Mk X.K C f) (F : FnKw X.prog X.w X.K X.mg X.base CX k f ks sp) (hr : Room (k + 1) X.A) (hg : Gl X x) (hm : X.mg x = some (.ref C)) (hx : ∀ σ, PassesAt CX X σ (E σ)) (hkw : PK X kws tk)
    (hall : (backToKw pos (keywordEach kws X.env)).all (·.1.isSome) = true := by rfl) (hks : (backToKw pos (keywordEach kws X.env)).filterMap (·.1) = ks := by rfl) (hdb : (x == ("__debug__" : Str)) = false := by decide)
    (hpl : ((backTo pos (starEach [] X.env)).any (·.1) || (backToKw pos (keywordEach kws X.env)).any (·.1.isNone)) = false := by rfl) :
    PE X (.Call (.Name x p) [] kws pos) (tMakeW C ks sp E tk) := by
  refine ⟨fun pins s σ H Q I h => ?_⟩
  refine wpAny_Call_Name_kw (ld_glob I hg hm ?_ hdb)
  refine PySem.W.callWith_KW0 (h₀ := X.base) I.ok.mod.kin M.kp hall ?_ hpl
  refine thn (hkw.run pos pins s σ H _ I h) fun ws s2 ⟨zs, H2, I2, rz, q2⟩ => ⟨I2.kIn, ?_⟩
  rw [hks]
  exact run_makeW M F hr (hx σ) I2 rz q2
/-- C() -/
theorem pe_makeW0 (M : Mk X.K C f) (F : FnKw X.prog X.w X.K X.mg X.base CX k f [] sp) (hr : Room (k + 1) X.A) (hg : Gl X x) (hm : X.mg x = some (.ref C)) (hx : ∀ σ, PassesAt CX X σ (E σ)) (hdb : (x == ("__debug__" : Str)) = false := by decide) :
    PE X (.Call (.Name x p) [] [] pos) (tMakeW C [] sp E tNil) := by
  refine ⟨fun pins s σ H Q I h => ?_⟩
  refine wpAny_Call_Name_kw (ld_glob I hg hm ?_ hdb)
  exact PySem.W.callWith_K0 I.kIn M.kp (run_makeW (ws := []) M F hr (hx σ) I .nil h)
end
end KwX

/-! Several except clauses, each with a name for the error. -/
namespace TryAs
open PySem PySem.Spec PyProof.Rows L2
abbrev Su := Addr → Value → Option Addr → TS
/-- the ends of a suite whose name in slot i goes behind it -/
def endsOf (i : Nat) (D : Ends) : Ends := { nx := fun σ' H' => D.nx (σ'.set i none) H', rt := D.rt, bk := fun σ' H' => D.bk (σ'.set i none) H', ct := fun σ' H' => D.ct (σ'.set i none) H' }
/-- what the clauses wish of an error, from the first on: class, slot of the name, suite -/
def wAsM (K : PySem.W.Frag) (Wout : WX) (D : Ends) : List (Value × Nat × Su) → WX
  | [] => Wout
  | (c, i, ts) :: r => fun cls d σ H => ∃ b, PySem.W.exmOne K cls c = some b ∧ (b = true → ∀ a, H a = none → ts a cls d (endsOf i D) (σ.set i (some (.ref a))) H) ∧ (b = false → wAsM K Wout D r cls d σ H)
inductive Hds (X : Cx) : List ExceptHandler → List (Value × Nat × Su) → Prop
  | nil : Hds X [] []
  | cons {x n : Str} {c : Value} {i : Nat} {ts : Su} {b₀ : Stmt} {suite : List Stmt} {np pos' : Pos} {hds : List ExceptHandler} {l : List (Value × Nat × Su)} (hi : X.N[i]? = some n) (hln : X.env.kindOf n = some .local) (hc : Names X x c)
      (hsu : ∀ (a : Addr) (oe : Obj) (cls : Value) (d : Option Addr) (pn : List (Addr × Obj)), Zc cls d oe → (∃ vs, oe.data = .fields vs) → PSs (X.suite a ((a, oe) :: pn)) (b₀ :: suite) (ts a cls d)) (r : Hds X hds l) :
      Hds X (.ExceptHandler (some (.Name x np)) (some n) (b₀ :: suite) pos' :: hds) ((c, i, ts) :: l)
section
variable {X : Cx} {body : List Stmt} {h₀ : ExceptHandler} {hds : List ExceptHandler} {l : List (Value × Nat × Su)} {pos : Pos} {tb : WX → TS} {Wout : WX}
theorem ps_try_asM (hs : X.stack = X.env :: X.outer) (hf : X.env.frame = some X.env.locals) (hN : X.N.Nodup) (tk : Takes X Wout)
    (hb : ∀ (W : WX) (pn : List (Addr × Obj)) (xe : Value → Shared → Prop), Takes (X.tr pn xe) W → PassesOwn (model X.prog X.w) X.A X.env xe → PSs (X.tr pn xe) body (tb W))
    (hh : Hds X (h₀ :: hds) l) : PS X (.Try body (h₀ :: hds) [] [] pos) (fun D σ H => tb (wAsM X.K Wout D l) D σ H) := by
  refine ⟨fun pins s σ H D I h => wpAny_Try_except ?_⟩
  have ok := I.ok
  have hfr : X.A.frames = some (X.env :: X.outer) := by rw [ok.frames, hs]
  refine wpAny_mono ((hb (wAsM X.K Wout D l) (X.pn ++ pins) (fun e s₁ => wpAny (model X.prog X.w) X.A (noteFrame e X.env) (fun _ s₂ => wpAny (model X.prog X.w) X.A (setFlight e none) (fun _ s₃ =>
    wpAny (model X.prog X.w) X.A (handleBy e X.env (h₀ :: hds)) (SP X pins D) X.xe s₃) X.xe s₂) X.xe s₁) (fun u s' xx => ?_) PassesOwn.looking).run [] s σ H D (I.toTry _) h) (fun f s1 hsp => ?_) (fun e s1 he => he)
  · obtain ⟨a, B, sI, pins', σ', H', cls, d, rfl, J', nb, up, sky, na, os, ag, w⟩ := xx
    have J : Inv X pins σ' H' sI := J'.ofTry ok
    show wpAny (model X.prog X.w) X.A (noteFrame (.ref a) X.env) _ _ _
    refine Sky.land Zc.steady hfr hf (show Sky B (X.env :: X.outer) a (Zc cls d) X.env.locals s'.heap by rw [← hs]; exact sky) fun h3 fl3 up3 => ?_
    have J3 : Inv X pins σ' H' { s' with heap := h3 } := J.landed nb fl3.1 (up.trans up3) os ag
    obtain ⟨oe3, vs3, he3, hz3, hd3⟩ := fl3.there
    have nfr : a ∉ frs (X.env :: X.outer) := fun hm => by
      obtain ⟨_, o', e', hnf⟩ := fl3.2.2.1.mem hm
      rw [he3] at e'
      cases e'
      exact hnf _ hd3
    have nL : a ≠ X.env.locals := fun z => nfr (List.mem_filterMap.mpr ⟨X.env, List.mem_cons_self, by rw [hf, z]⟩)
    have nF : a ∉ X.fs := fun hm => by
      obtain ⟨e, he, q⟩ := List.mem_filterMap.mp hm
      exact nfr (List.mem_filterMap.mpr ⟨e, List.mem_cons_of_mem _ he, q⟩)
    have S3 := J3.suite he3 hd3 na nL nF
    have go : ∀ {hds' : List ExceptHandler} {l' : List (Value × Nat × Su)}, Hds X hds' l' → wAsM X.K Wout D l' cls d σ' H' →
        wpAny (model X.prog X.w) X.A (handleBy (.ref a) X.env hds') (SP X pins D) X.xe { s' with heap := h3 } := fun {hds' l'} hk => by
      induction hk with
      | nil =>
        intro w
        refine wpAny_handleBy_nil ?_
        obtain ⟨k1, k2, k3, oe, vs, T, oT, ts', he, hz, hd, h1, hr⟩ := id fl3
        unfold PySem.passOn
        refine wpAny_bind (wpAny_field he hd h1 ?_)
        rw [if_neg (show ¬ ((Value.ref T == Value.none) = true) from by simp)]
        have fin : wpAny (model X.prog X.w) X.A (setFlight (.ref a) X.env.frame) (fun _ s4 => wpAny (model X.prog X.w) X.A (throw (.ref a) : Sem Flow) (SP X pins D) X.xe s4) X.xe { s' with heap := h3 } := by
          rw [hf]
          exact HandSPX.setFlight_upZ fl3 fun h4 hh4 up4 => wpAny_throw (tk _ _ ⟨a, B, sI, pins, σ', H', cls, d, rfl, J, nb, (up.trans up3).trans up4, .inr (.inr (by rw [hs]; exact hh4)), na, os, ag, w⟩)
        first
          | exact wpAny_bind (wpAny_pure (wpAny_bind fin))
          | exact wpAny_bind fin
      | @cons x n c i ts b₀ suite np pos' hds2 l2 hi hln hc hsu r ih =>
        intro w
        obtain ⟨b, hb1, hyes, hno⟩ := w
        refine wpAny_handleBy_cons (codeAny_handlers_test ?_) (by intro q; cases q)
        have LT : PySem.W.Looks (model X.prog X.w) h3 (typeOf (.ref a)) cls := fun A Q E s k q => wpAny_typeOf_ref (k _ _ he3) (by rw [hz3.1]; exact q)
        have LM := PySem.W.exm_one (M := model X.prog X.w) (J3.kIn) LT hb1
        have test : ∀ {Q : Value → Shared → Prop} {E : Value → Shared → Prop}, Q c { s' with heap := h3 } → wpAny (model X.prog X.w) (X.A.mark (some (.ref a))) (eval (.Name x np) X.env) Q E { s' with heap := h3 } := fun {Q E} q => by
          obtain ⟨hg, hdbg, hm | ⟨hm, hv, hnn⟩⟩ := hc
          · exact ld_glob (X := X.suite a ((a, oe3) :: (X.pn ++ pins))) S3 hg hm q hdbg
          · exact ld_blt (X := X.suite a ((a, oe3) :: (X.pn ++ pins))) S3 hg hm hv q hnn hdbg
        refine test (LM.here ?_)
        cases b with
        | false => exact ih (hno rfl)
        | true =>
          refine codeAny_handlers_suite_as (HandSPX.lands_againZ fl3 fun h4 fl4 up4 => ?_)
          have J4 : Inv X pins σ' H' { s' with heap := h4 } := J.landed nb fl4.1 ((up.trans up3).trans up4) os ag
          obtain ⟨oe4, vs4, he4, hz4, hd4⟩ := fl4.there
          refine store_ok (X := X.suite a ((a, oe4) :: (X.pn ++ pins))) (v := .ref a) (J4.suite he4 hd4 na nL nF) hN hi (.inl hln) rfl (fun s5 S5 => ?_) (.inr hln)
          refine wpAny_mono ((hsu a oe4 cls d (X.pn ++ pins) hz4 ⟨_, hd4⟩).run [] s5 _ H' _ S5 (hyes rfl a na)) (fun f s6 hsp => ?_) (fun _ _ z => False.elim z)
          cases f with
          | next =>
            obtain ⟨σ6, H6, S6, q6⟩ := hsp
            exact gone_ok (S6.unsuite ok) hN hi hln fun s7 J7 => ⟨_, _, J7, q6⟩
          | brk =>
            obtain ⟨σ6, H6, S6, q6⟩ := hsp
            exact gone_ok (S6.unsuite ok) hN hi hln fun s7 J7 => ⟨_, _, J7, q6⟩
          | cont =>
            obtain ⟨σ6, H6, S6, q6⟩ := hsp
            exact gone_ok (S6.unsuite ok) hN hi hln fun s7 J7 => ⟨_, _, J7, q6⟩
          | ret u =>
            obtain ⟨v6, σ6, H6, S6, r6, q6⟩ := hsp
            exact gone_ok (S6.unsuite ok) hN hi hln fun s7 J7 => ⟨_, _, _, J7, r6, q6⟩
    exact go hh w
  · cases f with
    | next =>
      obtain ⟨σ', H', J', q⟩ := hsp
      exact wpAny_execs_nil ⟨σ', H', J'.ofTry ok, q⟩
    | brk =>
      obtain ⟨σ', H', J', q⟩ := hsp
      exact ⟨σ', H', J'.ofTry ok, q⟩
    | cont =>
      obtain ⟨σ', H', J', q⟩ := hsp
      exact ⟨σ', H', J'.ofTry ok, q⟩
    | ret u =>
      obtain ⟨v, σ', H', J', r, q⟩ := hsp
      exact ⟨v, σ', H', J'.ofTry ok, r, q⟩
end
end TryAs

/-! len and in of instances by their own defs; methods that raise, in a try. -/
namespace Own
open PySem PySem.Spec PyProof.Rows L2
section
variable {X : Cx} {CX : CXT} {k : Nat} {C g : Addr} {sp : Sp} {E : XK}
def rLenO (C : Addr) (sp : Sp) (E : XK) : List V → Hp → VK → Prop := fun xs H Q => ∃ a dx fs, xs = [.ref a] ∧ H a = some (.ins C dx fs) ∧ sp [.ref a] H (fun v H' => ∃ n : Nat, v = .int n ∧ n < 2 ^ 62 ∧ Q v H') E
theorem call_lenO (F : FnR X.prog X.w X.K X.mg X.base CX k g sp) (hs : PySem.W.findIn X.K (.ref C) "__len__" = some (some (.ref g))) (hf : PySem.W.isFn X.K (.ref g) = true)
    (hr : Room (k + 1) X.A) (hx : Passes CX X E) : CallR X (.builtin "len") (rLenO C sp E) := by
  intro pins s σ H xs us Q I r h
  obtain ⟨a, dx, fs, rfl, ha, hsp⟩ := h
  obtain ⟨u, rfl, r1⟩ : ∃ u, us = [u] ∧ RelV (.ref a) u := by
    cases r with
    | cons r1 rr =>
      cases rr
      exact ⟨_, rfl, r1⟩
  cases r1
  obtain ⟨mA, J, _⟩ := ins_get I.hok ha
  obtain ⟨od, J, _⟩ := J.look
  obtain ⟨m, hF⟩ := I.fr
  refine PySem.W.len_K hF I.ok.mod.kin J hs hf (wpAny_mono (run_at F hr.in1 I.env0.frames hx I (us := [.ref a]) (vs := [.ref a]) (.cons rfl .nil) hsp) (fun u s' z => ?_) fun _ _ z => z)
  obtain ⟨v, H', I', rv, n, rfl, hn, q⟩ := z
  obtain ⟨t, rfl⟩ := rv
  exact ⟨⟨by omega, by omega⟩, .int n, H', I'.tok _, ⟨_, rfl⟩, q⟩
/-- x in o, o an instance -/
def rInO (C : Addr) (sp : Sp) (E : XK) : R2 := fun x y H Q => ∃ a dx fs, y = .ref a ∧ H a = some (.ins C dx fs) ∧ sp [.ref a, x] H (fun v H' => ∃ t, v = .bl t ∧ Q v H') E
theorem op_inO (F : FnR X.prog X.w X.K X.mg X.base CX k g sp) (hs : PySem.W.findIn X.K (.ref C) "__contains__" = some (some (.ref g))) (hf : PySem.W.isFn X.K (.ref g) = true)
    (hr : Room k X.A) (hx : Passes CX X E) : OpR X (compareOp .In) (rInO C sp E) := by
  intro pins s σ H x y v u Q I rx ry h
  obtain ⟨a, dx, fs, rfl, ha, hsp⟩ := h
  cases ry
  obtain ⟨mA, J, _⟩ := ins_get I.hok ha
  obtain ⟨od, J, _⟩ := J.look
  obtain ⟨m, hF⟩ := I.fr
  refine PySem.W.in_K hF I.ok.mod.kin J hs hf ?_
  refine wpAny_mono (run_at F hr I.env0.frames hx I (us := [.ref a, v]) (vs := [.ref a, x]) (.cons rfl (.cons rx .nil)) hsp) (fun u s' z => ?_) fun _ _ z => z
  obtain ⟨w, H', I', rv, t, rfl, q⟩ := z
  cases rv
  exact wpAny_truthy_bool ⟨.bl t, H', I', rfl, q⟩
end
section
variable {X : Cx} {CX : CXT} {k : Nat} {C f : Addr} {sp : Sp} {E : L2.St → XK} {m : Str} {o e : Expr} {es : List Expr} {t : TA} {ta : TE} {p pos apos : Pos}
/-- o.m(e, ..) that may raise, at the slots σ -/
def tMethS (C : Addr) (m : Str) (sp : Sp) (E : L2.St → XK) (ta : TE) (t : TA) : TE := fun σ H Q => ta σ H fun x H1 => ∃ a dx fs, x = .ref a ∧ H1 a = some (.ins C dx fs) ∧ fs.lookup m = none ∧ t σ H1 fun vs H2 => sp (x :: vs) H2 Q (E σ)
theorem pe_methW {pl : Sem Bool} (he : PE X o ta) (c : Cls X.K C) (hm : Meth X.K C m f) (F : FnR X.prog X.w X.K X.mg X.base CX k f sp) (hr : Room k X.A) (hx : ∀ σ, PassesAt CX X σ (E σ)) (ha : PA X (e :: es) t)
    (hst : starEach (e :: es) X.env = (false, eval e X.env) :: starEach es X.env := by rfl) (hpl : (backTo pos (starEach es X.env)).any (·.1) = false := by rfl)
    (ht : eval (.Call (.Attribute o m apos) (e :: es) [] pos) X.env = (do
      let ov ← eval o X.env
      standAt apos.atName
      let (f, first) ← holding [ov] (getMethod ov m pl)
      callWith pos f first (backTo pos (starEach (e :: es) X.env)) (backToKw pos (keywordEach [] X.env))) := by rfl) :
    PE X (.Call (.Attribute o m apos) (e :: es) [] pos) (tMethS C m sp E ta t) := by
  refine ⟨fun pins s σ H Q I h => ?_⟩
  refine PySem.W.methodCall_KW (pl := pl) (thn (he.run pins s σ H _ I h) fun u s1 ⟨x, H1, I1, rx, a, dx, fs, ex, ea, l, q⟩ => ?_) ht
  subst ex
  obtain rfl : u = Value.ref a := rx
  refine getmeth_ok I1 ea c hm l ?_
  refine PySem.W.callWith_K (first := [.ref a]) (h₀ := X.base) I.ok.mod.kin hm.kp (thn (ha.run pos pins s1 σ H1 _ I1 q) fun us s2 ⟨vs, H2, I2, r, q2⟩ => ⟨I2.kIn, ?_⟩) hst hpl
  exact wpAny_call (run_fnRS (us := .ref a :: us) (vs := .ref a :: vs) F hr (hx σ) I2 (.cons rfl r) q2)
end
end Own

/-! A list comprehension whose element may raise: the exception of a call in it goes on in the def's own air. -/
namespace CompX
open PySem PySem.Spec PyProof.Rows L2
section
variable {X : Cx} {W : WX} {pins : List (Addr × Obj)} {σ : L2.St} {H3 : Hp} {s3 : Shared} {scope : Scope} {ce : Env} {fp : List Addr} {use : Option (Value → Sem Unit)} {Qf : Value → Shared → Prop} {D : Addr}
/-- where the block's exceptions go -/
def airOf (X : Cx) (ce : Env) (use : Option (Value → Sem Unit)) (Qf : Value → Shared → Prop) (D : Addr) : Value → Shared → Prop :=
  notedBy (model X.prog X.w) X.A ce fun e s' => compEnds (model X.prog X.w) X.A X.xe use Qf (.ref D) ce (.error e) s'
theorem air (hst : X.stack = X.env :: X.outer) (hfr : X.env.frame = some X.env.locals) (tk : Takes X W) (I3 : L2.Inv X pins σ H3 s3) (hL : ce.locals = s3.heap.objs.size) (hce : ce.frame = X.env.frame)
    (hfp : ∀ b ∈ fp, FpOk X pins H3 b) {pn : List (Addr × Obj)} {τ : L2.St} {H : Hp} {s : Shared} {e : Value} {s' : Shared} (J0 : L2.Inv ((X.blk s3 H3 scope ce fp).tr [] (airOf X ce use Qf D)) pn τ H s)
    (c : L2.CX X.prog X.w X.stack H s (fun cls d H' => W cls d σ H') e s') : airOf X ce use Qf D e s' := by
  have c0 := c
  obtain ⟨a, _, _, _, _, rfl, fly, _⟩ := c
  obtain ⟨a', B, sI, pn2, τ2, H2, cls, d, ea, J, nb, up, sky, na, os, ag, w⟩ := XE.of_call (X := (X.blk s3 H3 scope ce fp).tr [] (airOf X ce use Qf D)) (W := fun cls d _ H' => W cls d σ H') J0 (fun _ _ _ z => z) c0
  cases ea
  have nb : ∀ b o, sI.heap.get? b = some o → b ∉ frs X.stack → B.get? b = some o := nb
  have fl : HandSPX.FlyingZ B (X.env :: X.outer) a (Zc cls d) s'.heap := by
    have sky : Sky B X.stack a (Zc cls d) ce.locals s'.heap := sky
    rw [hst] at sky
    obtain ⟨_, _, _, o2, v2, T2, t2, ts2, g1, _, g3, g4, _, _, g7, g8, g9⟩ := fly
    rcases sky with ⟨_, _, _, o1, v1, k1, _, k3, k4⟩ | z | ⟨_, _, _, o1, v1, T1, t1, ts1, k1, _, k3, k4, _, _, k7, k8, k9⟩
    · rw [g1] at k1
      cases k1
      rw [g3] at k3
      cases k3
      rw [g4] at k4
      cases k4
    · exact z
    · rw [g1] at k1
      cases k1
      rw [g3] at k3
      cases k3
      rw [g4] at k4
      cases k4
      rw [g7] at k7
      cases k7
      rw [g8] at k8
      cases k8
      rw [g9] at k9
      cases k9
  obtain ⟨m, nsI, _⟩ := J.loc
  have nsI : sI.heap.Ns ce.locals m := nsI
  have fA : X.A.frames = some (X.env :: X.outer) := by rw [I3.ok.frames, hst]
  show wpAny _ _ (noteFrame (.ref a) ce) _ _ _
  rw [noteFrame_env _ hce]
  refine HandSPX.looks_onZ Zc.steady fA hfr fl fun h1 hh up1 => ?_
  have ns1 : h1.Ns ce.locals m := Heap.Ns.upToSlots nsI (up.trans up1)
  have goal : CompFails (model X.prog X.w) X.A X.xe ce (.ref a) { s' with heap := h1 } := by
    refine ⟨m, ns1, fun h2 m2 ns2 sb => ?_⟩
    obtain ⟨y1, y2, y3, oe, vs, T, oT, ts, he, hz, hd, hv, hnT, hTe, hT, hdT, h3⟩ := hh
    have ofC : ∀ {b : Addr} {o : Obj} {us : Array Value}, h1.get? b = some o → o.data = .fields us → b ≠ ce.locals := fun {b o us} q1 q2 z => by
      obtain ⟨oL, _, _, r1, r2, _⟩ := ns1
      rw [z, r1] at q1
      cases q1
      rw [r2] at q2
      cases q2
    have keep : ∀ {b : Addr}, b ≠ ce.locals → h2.get? b = h1.get? b := fun {b} n => sb.2 b n
    have nC : H2 ce.locals = none := J.free
    have hid : ∀ {h : Heap} {b : Addr} {o : Obj}, (PySem.W.hideAll h [ce.locals]).get? b = some o → b ≠ ce.locals ∧ h.get? b = some o := fun {h b o} q =>
      ⟨fun z => (by
        rw [z, PySem.W.hideAll_none _ List.mem_cons_self] at q
        cases q), PySem.W.of_hideAll _ q⟩
    have hidN : ∀ {h : Heap} {b : Addr}, h.get? b = none → (PySem.W.hideAll h [ce.locals]).get? b = none := fun {h b} q => by
      cases z : (PySem.W.hideAll h [ce.locals]).get? b with
      | none => rfl
      | some o =>
        rw [(hid z).2] at q
        cases q
    have held : HandSPX.HeldZ (PySem.W.hideAll B [ce.locals]) (X.env :: X.outer) a (Zc cls d) X.env.locals h2 := by
      refine ⟨fun b o q => ?_, hidN y2, ?_, oe, vs, T, oT, ts, (keep (ofC he hd)).trans he, hz, hd, hv, hidN hnT, hTe, (keep (ofC hT hdT)).trans hT, hdT, h3⟩
      · obtain ⟨n, q'⟩ := hid q
        exact (keep n).trans (y1 b o q')
      · exact funFrames_none (Heap.FunFrames.sameBut sb ns2 y3) fun b hb => hidN (y3.mem hb).1
    have I7 : L2.Inv X pins σ H2 sI := I3.call' (ch := fp) J.os J.base J.hok J.bare fun b hb => by
      obtain ⟨_, z1, _, z3, z4, z5⟩ := hfp b hb
      exact ⟨z3, z1, z4, z5⟩
    obtain ⟨f0, f1, f2, f3, f4, f5⟩ := I3.fpOk (b := ce.locals) (Nat.le_of_eq hL.symm) nC
    have I8 := I7.turned (t' := sI.toks) (it := ce.locals) (h' := PySem.W.hideAll sI.heap [ce.locals]) (fun b o n q => PySem.W.hideAll_get _ q (by simpa using n)) f0 f1 f3 f4 f5
    unfold PySem.passOn
    refine wpAny_bind (wpAny_field ((keep (ofC he hd)).trans he) hd hv ?_)
    rw [if_neg (show ¬ ((Value.ref T == Value.none) = true) from by simp)]
    have fin : wpAny (model X.prog X.w) X.A (setFlight (.ref a) ce.frame) (fun _ s4 => wpAny (model X.prog X.w) X.A (throw (.ref a) : Sem Value) (fun _ _ => False) X.xe s4) X.xe { s' with heap := h2 } := by
      rw [hce, hfr]
      refine HandSPX.setFlight_onZ held fun h4 hh4 up4 => wpAny_throw (tk _ _ ⟨a, PySem.W.hideAll B [ce.locals], _, pins, σ, H2, cls, d, rfl, I8, fun b o q n => ?_, fun b o q n => ?_, .inr (.inr (by rw [hst]; exact hh4)), na, os, ag, w⟩)
      · obtain ⟨n1, q'⟩ := hid q
        exact PySem.W.hideAll_get _ (nb b o q' n) (by simpa using n1)
      · obtain ⟨n1, q'⟩ := hid q
        obtain ⟨sl, q2⟩ := (up.trans up1) b o q' n
        obtain ⟨sl2, q3⟩ := up4 b _ ((keep n1).trans q2) n
        exact ⟨sl2, q3⟩
    first
      | exact wpAny_bind (wpAny_pure (wpAny_bind fin))
      | exact wpAny_bind fin
  cases use with
  | none => exact goal
  | some u => exact goal
end
/-- the block's context, its exceptions going to xe -/
abbrev Blk (X : Cx) (s : Shared) (H : Hp) (scope : Scope) (ce : Env) (fp : List Addr) (xe : Value → Shared → Prop) : Cx := (X.blk s H scope ce fp).tr [] xe
section
variable {X : Cx} {W : WX} {elt tg iter : Expr} {ifs : List Expr} {scope : Scope} {own : List (Str × Nat)} {wi : TI} {g : TG} {tt : TT} {te : XK → TE}
/-- what the parts of the comprehension are, in whatever block -/
structure Parts (X : Cx) (elt tg iter : Expr) (ifs : List Expr) (scope : Scope) (own : List (Str × Nat)) (wi : TI) (g : TG) (tt : TT) (te : XK → TE) : Prop where
  calm : X.calm = true
  nd : X.N.Nodup
  it : PI X tg iter wi
  ok : BlkOk X.N X.env.scope scope own
  tgt : ∀ s H C cl fp xe, PG (Blk X s H scope (compEnvC scope cl C X.env) fp xe) tg g
  tst : ∀ s H C cl fp xe, PTs (Blk X s H scope (compEnvC scope cl C X.env) fp xe) ifs tt
  elm : ∀ s H C cl fp xe (E : XK), (∀ τ, PassesAt (L2.CX X.prog X.w) (Blk X s H scope (compEnvC scope cl C X.env) fp xe) τ E) → PE (Blk X s H scope (compEnvC scope cl C X.env) fp xe) elt (te E)
  fold : ∀ x, foldedSetIterable iter X.env x = pure x
theorem core {pins : List (Addr × Obj)} {s : Shared} {σ : L2.St} {H : Hp} {Q : VK} {pos pos' : Pos} {use : Option (Value → Sem Unit)} {Qf : Value → Shared → Prop} (hst : X.stack = X.env :: X.outer) (hfr : X.env.frame = some X.env.locals) (tk : Takes X W)
    (P : Parts X elt tg iter ifs scope own wi g tt te) (I : L2.Inv X pins σ H s) (h : tLc wi g tt (te fun cls d H' => W cls d σ H') (own.map (·.2)) σ H Q)
    (hRR : ∀ (D : Addr) (ce : Env) s' m H', L2.Inv X pins σ H' s' → Q (.ref D) H' → s'.heap.Ns ce.locals m → FpOk X pins H' ce.locals → compEnds (model X.prog X.w) X.A X.xe use Qf (.ref D) ce (.ok .next) s') :
    wpAny (model X.prog X.w) X.A (comprehension (.ListComp elt [⟨tg, iter, ifs, 0⟩] scope pos) scope X.env pos' (newList []) false (eval iter X.env) use) Qf X.xe s := by
  have ok := P.ok
  have free : ∀ y ∈ scope.names, y.2 = .free → ∃ c, X.env.cells.lookup y.1 = some c := fun y hy e => (ok.free y hy e).elim (fun k => I.ok.has _ (.inl k)) fun k => I.ok.has _ (.inr k)
  refine comprehension_at (use := use) rfl P.fold (closure_ok free) ok.kind (fun y hy e => (ok.uniq y hy).trans (congrArg some e))
    (thn (P.it.run pins s σ H _ I h) fun v0 s1 k1 => thn k1 fun v1 s2 k2 => ?_)
  obtain ⟨it, fp, tn, J, H2, rfl, I2, T, t2, f2, q⟩ := k2
  refine wpAny_newObj_type (newEnv_comp ?_) (by show 0 ≤ sizeLine; decide)
  obtain ⟨D, hD⟩ : ∃ D, D = s2.heap.objs.size := ⟨_, rfl⟩
  rw [← hD]
  have nD : H2 D = none := I2.hok.fresh (Nat.le_of_eq hD.symm)
  obtain ⟨Wv, ⟨m0, w0⟩, turn⟩ := q D nD
  obtain ⟨s3, hs3⟩ : ∃ s3 : Shared, s3 = { s2 with heap := s2.heap.push { cls := .type "list", data := .seq ([] : List Value).toArray } } := ⟨_, rfl⟩
  have I3 : L2.Inv X pins σ (upd H2 D (.lst [])) s3 := by
    subst hs3 hD
    exact I2.laid (t' := s2.toks) (fun b o e => Heap.get?_push_of_some _ e) (Nat.le_refl _) ⟨Nat.zero_le _, [], 0, .nil, Heap.get?_push_size _ rfl⟩
  have old : ∀ b o, s2.heap.get? b = some o → s3.heap.get? b = some o := fun b o e => by
    rw [hs3]
    exact Heap.get?_push_of_some _ e
  have lt2 : ∀ b ∈ fp, b < s2.heap.objs.size := fun b hb => by
    obtain ⟨o, e, _⟩ := T.obj _ _ t2 b hb
    exact Heap.lt_size e
  have f3 : ∀ b ∈ fp, FpOk X pins (upd H2 D (.lst [])) b ∧ b < s3.heap.objs.size := fun b hb => by
    have l := lt2 b hb
    refine ⟨⟨(upd_ne (by rw [hD]; exact Nat.ne_of_lt l)).trans (f2 b hb).1, (f2 b hb).2⟩, ?_⟩
    rw [hs3]
    show b < (s2.heap.push _).objs.size
    rw [Heap.size_push]
    exact Nat.lt_succ_of_lt l
  have t3 : tn 0 s3.heap := T.keep _ _ _ t2 fun b _ o e => old b o e
  have I4 := block_start I3 ok P.nd f3
  obtain ⟨H3, hH3⟩ : ∃ H3, H3 = upd H2 D (.lst []) := ⟨_, rfl⟩
  rw [← hH3] at I3 I4 f3 w0
  obtain ⟨cl, hcl⟩ : ∃ cl, cl = cellsFrom (s3.heap.objs.size + 1) scope.names (cloFrom X.env.cells scope.names []) := ⟨_, rfl⟩
  rw [← hcl] at I4
  have pgT := P.tgt s3 H3 s3.heap.objs.size cl fp
  have ptT := P.tst s3 H3 s3.heap.objs.size cl fp
  have peT := P.elm s3 H3 s3.heap.objs.size cl fp
  obtain ⟨s4, hs4⟩ : ∃ s4 : Shared, s4 = { s3 with heap := pushCells (s3.heap.push { cls := .type "dict", data := .dict #[] }) scope.names } := ⟨_, rfl⟩
  rw [← hs4] at I4
  have t4 : tn 0 s4.heap := T.keep _ _ _ t3 fun b _ o e => by
    rw [hs4]
    exact pushCells_keeps _ _ _ _ (Heap.get?_push_of_some _ e)
  have key : codeAny (model X.prog X.w) X.A (.compStart (.ListComp elt [⟨tg, iter, ifs, 0⟩] scope pos) 0 (.ref it) (.ref D) (compEnvC scope cl s3.heap.objs.size X.env))
      (compEnds (model X.prog X.w) X.A X.xe use Qf (.ref D) (compEnvC scope cl s3.heap.objs.size X.env)) s4 := by
    obtain ⟨ce, hce⟩ : ∃ ce, ce = compEnvC scope cl s3.heap.objs.size X.env := ⟨_, rfl⟩
    rw [← hce] at I4 pgT ptT peT ⊢
    have cL : ce.locals = s3.heap.objs.size := by rw [hce]; rfl
    have cF : ce.frame = X.env.frame := by rw [hce]; rfl
    obtain ⟨xe, hxe⟩ : ∃ xe, xe = airOf X ce use Qf D := ⟨_, rfl⟩
    have pass : ∀ τ, PassesAt (L2.CX X.prog X.w) (Blk X s3 H3 scope ce fp xe) τ (fun cls d H' => W cls d σ H') := fun τ pn Hc sc e s' Ic c => by
      subst hxe
      exact air hst hfr tk I3 cL cF (fun b hb => (f3 b hb).1) Ic c
    have I4' : L2.Inv (Blk X s3 H3 scope ce fp xe) [] (wipe σ (own.map (·.2))) H3 s4 := I4.toTry xe
    have nfp : ∀ b ∈ fp, H3 b = none := fun b hb => (f3 b hb).1.1
    have stat : ∀ {τ : L2.St} {H' : Hp} {s' : Shared}, L2.Inv (Blk X s3 H3 scope ce fp xe) [] τ H' s' → (∀ b ∈ fp, H' b = none) → ∀ b ∈ fp, FpOk (Blk X s3 H3 scope ce fp xe) [] H' b := fun {τ H' s'} I' hn b hb =>
      ⟨hn b hb, (I'.ok.exf b hb).1, I'.ok.exfs b hb, .inl hb, fun x c e => (I'.ok.exf b hb).2 x c e, fun p hp => nomatch (show p ∈ ([] : List (Addr × Obj)) from hp)⟩
    have loop : codeAny (model X.prog X.w) X.A (.compLoop (.ListComp elt [⟨tg, iter, ifs, 0⟩] scope pos) 0 (.ref it) (.ref D) ce) (compEnds (model X.prog X.w) X.A X.xe use Qf (.ref D) ce) s4 := by
      refine compLoop_any (fun n s' => ∃ i H', L2.Inv (Blk X s3 H3 scope ce fp xe) [] (wipe σ (own.map (·.2))) H' s' ∧ tn i s'.heap ∧ (∀ b ∈ fp, H' b = none) ∧ Wv i n H') ?_ m0 ⟨0, H3, I4', t4, nfp, w0⟩
      rintro n s5 ⟨i, H5, I5, t5, n5, w5⟩
      rcases turn i n H5 w5 with ⟨stop, qq⟩ | ⟨go, Nx, hNx, step⟩
      · refine thnF (T.done (Blk X s3 H3 scope ce fp xe) rfl rfl rfl P.calm i [] s5 _ H5 (fun _ _ => False) I5 (stat I5 n5) t5 stop) fun r s6 ⟨hr, I6⟩ => ?_
        subst hr
        have I7 : L2.Inv X pins σ H5 s6 := I3.call' (ch := fp) I6.os I6.base I6.hok I6.bare fun b hb => by
          obtain ⟨_, z1, _, z3, z4, z5⟩ := (f3 b hb).1
          exact ⟨z3, z1, z4, z5⟩
        have nC : H5 ce.locals = none := I6.free
        obtain ⟨m, hn, _⟩ := I6.loc
        exact hRR D ce s6 m H5 I7 qq hn (I3.fpOk (Nat.le_of_eq cL.symm) nC)
      · refine thnF (T.item (Blk X s3 H3 scope ce fp xe) rfl rfl rfl P.calm i [] s5 _ H5 (fun _ _ => False) I5 (stat I5 n5) t5 go) fun r s6 ⟨u, hr, h6⟩ => ?_
        subst hr
        refine thnF h6 fun _ s7 ⟨x, H7, I7, r7, y7, t7, n7⟩ => ?_
        have I7' := I7.pinned (stat I7 n7) (T.obj _ _ t7)
        subst hxe
        refine thn ((pgT _).run _ s7 _ H7 x u _ I7' r7 (step x H7 y7)) fun _ s8 ⟨τ, H8, I8, hw, q8⟩ => ?_
        refine thn ((ptT _).run _ s8 τ H8 _ I8 q8) fun b s9 ⟨H9, I9, q9⟩ => ?_
        have fin : ∀ {s' : Shared} {H' : Hp}, L2.Inv (Blk X s3 H3 scope ce fp (airOf X ce use Qf D)) ([] ++ pinsAt fp s7.heap) τ H' s' → Nx H' →
            ∃ m, m < n ∧ ∃ i H', L2.Inv (Blk X s3 H3 scope ce fp (airOf X ce use Qf D)) [] (wipe σ (own.map (·.2))) H' s' ∧ tn i s'.heap ∧ (∀ b ∈ fp, H' b = none) ∧ Wv i m H' := fun {s' H'} I' nx => by
          obtain ⟨m', hm, w'⟩ := hNx H' nx
          have pin : ∀ b ∈ fp, ∀ o, s7.heap.get? b = some o → s'.heap.get? b = some o ∧ H' b = none := fun b hb o e => by
            have z := I'.pin (b, o) (List.mem_append_right _ (List.mem_append_right _ (mem_pinsAt hb e)))
            exact ⟨z.1, z.2.1⟩
          refine ⟨m', hm, i + 1, H', (I'.unpinned (pins := [])).weak ?_ fun j v e => ?_, T.keep _ _ _ t7 fun b hb o e => (pin b hb o e).1, fun b hb => ?_, w'⟩
          · rw [← hw, wipe_length]
          · rw [← hw] at e
            exact (wipe_some e).1
          · obtain ⟨o, e, _⟩ := T.obj _ _ t7 b hb
            exact (pin b hb o e).2
        cases b with
        | false =>
          rw [if_neg Bool.false_ne_true] at q9 ⊢
          exact fin I9 q9
        | true =>
          rw [if_pos rfl] at q9 ⊢
          refine thn ((peT _ _ pass).run _ s9 τ H9 _ I9 q9) fun z s10 ⟨yv, H10, I10, r10, acc, hD10, hz10, nx⟩ => ?_
          exact app_ok (X := Blk X s3 H3 scope ce fp (airOf X ce use Qf D)) I10 hD10 hz10 r10 fun s11 I11 => fin I11 nx
    exact codeAny_compStart_list loop (T.self X.A 0 _ _ _ t4 loop)
  subst hs4 hcl hs3
  exact key
/-- the comprehension's reading where its element may raise -/
def tLcX (wi : TI) (g : TG) (tt : TT) (te : XK → TE) (vs : List Nat) (W : WX) : TE := fun σ H Q => tLc wi g tt (te fun cls d H' => W cls d σ H') vs σ H Q
/-- y = [..] -/
theorem ps_setLcX {i : Nat} {y : Str} {py pos spos : Pos} (hst : X.stack = X.env :: X.outer) (hfr : X.env.frame = some X.env.locals) (tk : Takes X W) (hy : X.N[i]? = some y) (hyl : X.env.scope.names.lookup y = some .local)
    (hsw : swapsWith (.ListComp elt [⟨tg, iter, ifs, 0⟩] scope pos) (some (.Name y py)) spos.line X.env = pure true) (P : Parts X elt tg iter ifs scope own wi g tt te) :
    PS X (.Assign [.Name y py] (.ListComp elt [⟨tg, iter, ifs, 0⟩] scope pos) spos) (tAsg (tLcX wi g tt te (own.map (·.2)) W) (gName i)) := by
  refine ⟨fun pins s σ H D I h => ?_⟩
  rw [exec_Assign_Name_used _ _ _ _ hsw]
  refine wpAny_bind (wpAny_standAt (wpAny_bind ?_))
  show wpAny _ X.A (do let _ ← comprehension (.ListComp elt [⟨tg, iter, ifs, 0⟩] scope pos) scope X.env (firstIterPos [⟨tg, iter, ifs, 0⟩] pos) (newList []) false (eval iter X.env) (some (assign (.Name y py) X.env))) _ _ s
  have h : tLc wi g tt (te fun cls d H' => W cls d σ H') (own.map (·.2)) σ H (fun x H1 => gName i x σ H1 D.nx) := h
  refine wpAny_bind (thn (core (Qf := fun _ s' => SP X pins D .next s') hst hfr tk P I h fun L ce s' m H' I' q hn f => ?_) fun _ s' hq => wpAny_pure (wpAny_pure hq))
  show wpAny _ _ (assign (.Name y py) X.env (.ref L)) _ _ _
  refine wpAny_assign_Name (store_ok2 (v := V.ref L) I' P.nd hy (.inl hyl) rfl (fun s2 I2 ⟨a, sb, ha⟩ => ?_) (.inr hyl))
  obtain ⟨f0, f1, f2, f3, f4, f5⟩ := f
  have hne : ce.locals ≠ a := ha.elim (fun z => by rw [z]; exact f1) fun z e => f4 y a z e.symm
  exact ⟨m, hn.sameBut sb hne, fun h3 sb3 => ⟨_, H', I2.turned (t' := s2.toks) (fun b o hb e => (sb3.2 b hb).trans e) f0 f1 f3 f4 f5, q⟩⟩
end
end CompX

namespace Law
open PySem PySem.Spec PyProof.Rows L2
def top (i : Nat) : Stmt := PySem.Challenge.pw_rungbounds_k07_whole_rack_of_joins.main.body.getD i (.Pass ⟨0, 0, 0, 0⟩)
abbrev sBox : Stmt := top 19
abbrev sTake : Stmt := top 20

/-- the box at b: the cells in the list at l, the place, what is left of a great cell, the seed -/
def Box (H : Hp) (b l : Addr) : Prop := ∃ (ns : List Int) (i : Nat) (q s : Int), H b = some (.lst [.ref l, .int i, .int q, .int s]) ∧ H l = some (.lst (ns.map V.int)) ∧ ns.length ≤ 63
theorem Box.ne {H : Hp} {b l : Addr} (B : Box H b l) : l ≠ b := fun z => by
  obtain ⟨ns, i, q, s, h1, h2, _⟩ := B
  rw [z, h1] at h2
  have e := HO.lst.inj (Option.some.inj h2)
  cases ns with
  | nil => cases e
  | cons n ns => cases e
theorem Box.keep {H H' : Hp} {b l : Addr} (B : Box H b l) (k : ∀ c, c = b ∨ c = l → H' c = H c) : Box H' b l := by
  obtain ⟨ns, i, q, s, h1, h2, h3⟩ := B
  exact ⟨ns, i, q, s, (k b (.inl rfl)).trans h1, (k l (.inr rfl)).trans h2, h3⟩
/-- a draw: 0 ≤ r < size; nothing but the box has changed -/
def spTake : Sp := fun vs H Q _ => ∃ (b l : Addr) (n : Int), vs = [.ref b, .int n] ∧ Box H b l ∧ 0 < n ∧ n.natAbs < 2 ^ 8000 ∧
  ∀ (r : Int) (H' : Hp), 0 ≤ r → r < n → Box H' b l → (∀ c, c ≠ b → H' c = H c) → Q (.int r) H'
def spBox (K : PySem.W.Frag) : Sp := fun vs H Q _ => ∃ (a : Addr) (ns : List Int), vs = [.ref a] ∧ SqL K H a (ns.map V.int) ∧ ns.length ≤ 63 ∧
  ∀ (b l : Addr) (H' : Hp), Box H' b l → H b = none → H l = none → Same H H' → Q (.ref b) H'
structure BoxTxt (K : PySem.W.Frag) (mg : Str → Option Value) : Prop where
  len : mg "len" = none
  int : mg "int" = none
section
variable {P : Program} {w : World} {K : PySem.W.Frag} {mg : Str → Option Value} {base : Heap}
theorem scTake : FnScope ["_law_box_here", "_law_size", "_law_cell", "_law_digit"] ["_law_box_here", "_law_size"] (defScope sTake) := ⟨rfl, rfl, rfl, by decide +kernel, rfl, by decide +kernel, by decide +kernel⟩
theorem if_t {c : Bool} {A B : Prop} (hc : c = true) (h : A) : if c = true then A else B := by
  rw [hc]
  exact h
theorem if_f {c : Bool} {A B : Prop} (hc : c = false) (h : B) : if c = true then A else B := by
  rw [hc]
  exact h
theorem pow18 : CPow 10 18 := ⟨by decide, by decide, by decide⟩
theorem at_box {l : Addr} {i q s : Int} : atI [V.ref l, .int i, .int q, .int s] 0 = some (.ref l) ∧ atI [V.ref l, .int i, .int q, .int s] 1 = some (.int i) ∧ atI [V.ref l, .int i, .int q, .int s] 2 = some (.int q) ∧ atI [V.ref l, .int i, .int q, .int s] 3 = some (.int s) := ⟨rfl, rfl, rfl, rfl⟩
theorem ok_take {f : Addr} {fd : FuncData} (F : Fun K "_law_take" "_law_take" sTake f fd) (T : BoxTxt K mg) : FnOk P w K mg base CX0 1 f fd ["_law_box_here", "_law_size"] spTake := by
  refine F.ok scTake (fun vs H Q E h => ?_) (fun cdv A outer s H vs Q E hr h => ?_)
  · obtain ⟨b, l, n, rfl, _⟩ := h
    rfl
  · obtain ⟨b, l, n, rfl, B, hn0, hn1, k⟩ := h
    refine ⟨_, C8.pss_cut (ps_if (PW.pt (pw_and (pt_cmpR op_lt (pe_ix ix_list (pv 0) pe_int (fun _ _ => rfl)) pe_int (nomark _))
          (pw_and1 (pt_cmpR op_lt (pe_ix ix_list (pv 0) pe_int (fun _ _ => rfl)) (pe_callB call_len_seq (by rfl) T.len PySem.boot_len (pa_cons (pe_ix ix_list (pv 0) pe_int (fun _ _ => rfl)) pa_nil)) (nomark _)))))
        (pss_cons (ps_set (i := 2) scTake.nd rfl (Or.inl rfl) (pe_ix ix_list (pe_ix ix_list (pv 0) pe_int (fun _ _ => rfl)) (pe_ix ix_list (pv 0) pe_int (fun _ _ => rfl)) (fun _ _ => rfl)))
        (pss_cons (ps_asg (pe_op op_add (pe_ix ix_list (pv 0) pe_int (fun _ _ => rfl)) pe_int) (pg_sub (pv 0) pe_int set_list))
        (pss_one (ps_if (pt_cmpR op_ge (pv 2) (pe_op op_pow pe_int pe_int) (nomark _))
          (pss_one (ps_asg (pe_op op_sub (pv 2) (pe_op op_pow pe_int pe_int)) (pg_sub (pv 0) pe_int set_list)))
          (pss_one (ps_asg (pe_op op_mod (pe_callTy call_int1 (by rfl) T.int (by decide +kernel) (pa_cons (pe_op op_add (pe_op op_add (pe_op op_mul (pe_ix ix_list (pv 0) pe_int (fun _ _ => rfl)) pe_int) (pe_op op_mul (pv 2) pe_int)) pe_int) pa_nil)) pe_int) (pg_sub (pv 0) pe_int set_list)))))))
        pss_nil)
      (pss_cons (ps_if (pt_cmpR op_gt (pe_ix ix_list (pv 0) pe_int (fun _ _ => rfl)) pe_int (nomark _))
        (pss_cons (ps_set (i := 3) scTake.nd rfl (Or.inl rfl) (pe_op op_mod (pe_callTy call_int1 (by rfl) T.int (by decide +kernel) (pa_cons (pe_ix ix_list (pv 0) pe_int (fun _ _ => rfl)) pa_nil)) (pv 1)))
        (pss_cons (ps_asg (pe_op op_fdivW (pe_ix ix_list (pv 0) pe_int (fun _ _ => rfl)) (pv 1)) (pg_sub (pv 0) pe_int set_list))
        (pss_one (ps_ret (pv 3))))) pss_nil)
      (pss_cons (ps_asg (pe_op op_mod (pe_callTy call_int1 (by rfl) T.int (by decide +kernel) (pa_cons (pe_op op_mul (pe_ix ix_list (pv 0) pe_int (fun _ _ => rfl)) pe_int) pa_nil)) pe_int) (pg_sub (pv 0) pe_int set_list))
      (pss_one (ps_ret (pe_op op_mod (pe_callTy call_int1 (by rfl) T.int (by decide +kernel) (pa_cons (pe_op op_fdiv (pe_ix ix_list (pv 0) pe_int (fun _ _ => rfl)) pe_int) pa_nil)) (pv 1)))))), ?_⟩
    obtain ⟨ns, i, q, sd, hb, hl, h63⟩ := id B
    have hne := B.ne
    have keepB : ∀ {H' : Hp} {i' : Nat} {q' s' : Int}, H' b = some (.lst [.ref l, .int i', .int q', .int s']) → (∀ c, c ≠ b → H' c = H c) → Box H' b l :=
      fun {H' i' q' s'} h1 h2 => ⟨ns, i', q', s', h1, (h2 l hne).trans hl, h63⟩
    refine ⟨fun σ' H' => ∃ (v : Option V) (i' : Nat) (q' s' : Int), σ' = [some (.ref b), some (.int n), v, none] ∧ H' b = some (.lst [.ref l, .int i', .int q', .int s']) ∧ ∀ c, c ≠ b → H' c = H c, ?_, ?_⟩
    · -- a new cell is read, or not
      refine ⟨_, rfl, b, _, _, _, rfl, rfl, SqL.of hb, at_box.2.2.1, _, _, rfl, rfl, _, rfl, ?_⟩
      by_cases c1 : q < 1
      · refine if_t (decide_eq_true c1) ?_
        refine ⟨_, rfl, b, _, _, _, rfl, rfl, SqL.of hb, at_box.2.1, _, rfl, b, _, _, _, rfl, rfl, SqL.of hb, at_box.1, l, _, rfl, .inl (SqL.of hl), _, _, rfl, rfl, _, rfl, ?_⟩
        by_cases c2 : (i : Int) < ((ns.map V.int).length : Int)
        · refine if_t (decide_eq_true c2) ?_
          rw [List.length_map] at c2
          obtain ⟨z, hz⟩ : ∃ z, ns[i]? = some z := ⟨_, List.getElem?_eq_getElem (by omega)⟩
          have hz' : atI (ns.map V.int) (i : Int) = some (V.int z) := atI_nat (by rw [List.getElem?_map, hz]; rfl)
          refine ⟨_, rfl, b, _, _, _, rfl, rfl, SqL.of hb, at_box.1, _, rfl, b, _, _, _, rfl, rfl, SqL.of hb, at_box.2.1, l, _, _, _, rfl, rfl, SqL.of hl, hz', ?_⟩
          refine ⟨_, rfl, b, _, _, _, rfl, rfl, SqL.of hb, at_box.2.1, _, _, rfl, rfl, _, rfl, b, _, _, 1, rfl, rfl, hb, rfl, ?_⟩
          have h1 : ∀ (o : HO), upd H b o b = some o := fun o => upd_same
          have hc : ∀ (o : HO) c, c ≠ b → upd H b o c = H c := fun o c hc => upd_ne hc
          refine ⟨_, rfl, _, _, rfl, rfl, pow18, _, _, rfl, rfl, _, rfl, ?_⟩
          refine ite2 (fun _ => ?_) fun _ => ?_
          · refine ⟨_, rfl, _, _, rfl, rfl, pow18, _, _, rfl, rfl, _, rfl, b, _, _, 2, rfl, rfl, h1 _, rfl, ?_⟩
            exact ⟨some (.int z), i + 1, _, sd, rfl, upd_same, fun c hc' => by rw [upd_ne hc', upd_ne hc']⟩
          · refine ⟨_, rfl, b, _, _, _, rfl, rfl, SqL.of (h1 _), at_box.2.2.2, _, _, rfl, rfl, .inr ⟨by decide, by decide⟩, _, rfl, _, _, rfl, rfl, .inr ⟨by decide, by decide⟩, _, _, rfl, rfl, _, _, rfl, rfl, .inl ⟨_, rfl, _, _, rfl, rfl, (by show (0 : Int) < 2147483647; decide), _, rfl, b, _, _, 3, rfl, rfl, h1 _, rfl, ?_⟩⟩
            exact ⟨some (.int z), i + 1, q, _, rfl, upd_same, fun c hc' => by rw [upd_ne hc', upd_ne hc']⟩
        · refine if_f (decide_eq_false c2) ?_
          exact ⟨none, i, q, sd, rfl, hb, fun _ _ => rfl⟩
      · refine if_f (decide_eq_false c1) ?_
        exact ⟨none, i, q, sd, rfl, hb, fun _ _ => rfl⟩
    · rintro σ' H' ⟨v, i', q', s', rfl, hb', ho⟩
      refine ⟨_, rfl, b, _, _, _, rfl, rfl, SqL.of hb', at_box.2.2.1, _, _, rfl, rfl, _, rfl, ?_⟩
      refine ite2 (fun _ => ?_) fun _ => ?_
      · refine ⟨_, rfl, b, _, _, _, rfl, rfl, SqL.of hb', at_box.2.2.1, .inl ⟨_, rfl, _, rfl, _, _, rfl, rfl, hn0, ?_⟩⟩
        refine ⟨_, rfl, b, _, _, _, rfl, rfl, SqL.of hb', at_box.2.2.1, _, rfl, _, _, rfl, rfl, wide_div hn0 hn1 (by decide) (by decide), _, rfl, b, _, _, 2, rfl, rfl, hb', rfl, _, rfl, ?_⟩
        exact k _ _ (Int.emod_nonneg _ (by omega)) (Int.emod_lt_of_pos _ hn0) (keepB (q' := q' / n) upd_same fun c hc => (upd_ne hc).trans (ho c hc)) fun c hc => (upd_ne hc).trans (ho c hc)
      · refine ⟨_, rfl, b, _, _, _, rfl, rfl, SqL.of hb', at_box.2.2.2, _, _, rfl, rfl, .inr ⟨by decide, by decide⟩, .inl ⟨_, rfl, _, _, rfl, rfl, (by show (0 : Int) < 2147483647; decide), _, rfl, b, _, _, 3, rfl, rfl, hb', rfl, ?_⟩⟩
        refine ⟨_, rfl, b, _, _, _, rfl, rfl, SqL.of upd_same, at_box.2.2.2, _, _, rfl, rfl, ⟨by decide, by decide⟩, .inl ⟨_, rfl, _, rfl, _, _, rfl, rfl, hn0, ?_⟩⟩
        exact k _ _ (Int.emod_nonneg _ (by omega)) (Int.emod_lt_of_pos _ hn0) (keepB upd_same fun c hc => (upd_ne hc).trans (ho c hc)) fun c hc => (upd_ne hc).trans (ho c hc)

theorem cut63 {xs : List V} (h : xs.length ≤ 63) : cutV xs none (some 63) = xs := by
  unfold cutV
  have e0 : HT.sIx xs.length 0 none = 0 := rfl
  have e1 : HT.sIx xs.length xs.length (some 63) = xs.length := by
    unfold HT.sIx
    simp
    omega
  rw [e0, e1, List.drop_zero, Nat.sub_zero, List.take_length]
theorem scBox : FnScope ["_law_script", "_law_cell"] ["_law_script"] (defScope sBox) := ⟨rfl, rfl, rfl, by decide +kernel, rfl, by decide +kernel, by decide +kernel⟩
theorem ok_box {f : Addr} {fd : FuncData} (F : Fun K "_law_box" "_law_box" sBox f fd) (T : BoxTxt K mg) : FnOk P w K mg base CX0 1 f fd ["_law_script"] (spBox K) := by
  refine F.ok scBox (fun vs H Q E h => ?_) (fun cdv A outer s H vs Q E hr h => ?_)
  · obtain ⟨a, ns, rfl, _⟩ := h
    rfl
  · obtain ⟨a, ns, rfl, hS, h63, k⟩ := h
    refine ⟨_, pss_one (ps_ret (pe_lst (pa_cons (pe_lc (own := [("_law_cell", 1)]) (g := gName 1) (tt := tYes) (by rfl) scBox.nd (pi_list (pe_slice sl_list (pv 0) po_none (po_some pe_int)))
        (blkOk_by (own := [("_law_cell", 1)]) (N := ["_law_script", "_law_cell"]) (sc := defScope sBox) (by decide +kernel)) (fun _ _ _ _ _ => pg_name (i := 1) scBox.nd rfl (Or.inl rfl)) (fun _ _ _ _ _ => pts_nil)
        (fun _ _ _ _ _ => pe_callTy call_int1 (by rfl) T.int (by decide +kernel) (pa_cons (pv 1) pa_nil))) (pa_cons pe_int (pa_cons pe_int (pa_cons pe_int pa_nil)))))), ?_⟩
    have e63 : cutV (ns.map V.int) none (some 63) = ns.map V.int := cut63 (by rw [List.length_map]; exact h63)
    refine ⟨_, rfl, 63, rfl, a, _, rfl, hS, fun p hp => ?_⟩
    rw [e63]
    refine ⟨p, rfl, ⟨_, SqL.of upd_same⟩, fun D hD => ?_⟩
    have hpD : p ≠ D := fun z => by
      rw [z, upd_same] at hD
      cases hD
    have hD0 : H D = none := by rw [upd_ne (Ne.symm hpD)] at hD; exact hD
    refine lc_list (K := K) (a := p) (xs := ns.map V.int) (fun i H' => H' D = some (.lst ((ns.take i).map V.int)) ∧ H' p = some (.lst (ns.map V.int)) ∧ ∀ c, c ≠ D → c ≠ p → H' c = H c)
      ⟨upd_same, by rw [upd_ne hpD, upd_same], fun c h1 h2 => by rw [upd_ne h1, upd_ne h2]⟩ (fun i H' _ h => SqL.of h.2.1) ?_ ?_
    · rintro i y H' hi ⟨g1, g2, g3⟩
      obtain ⟨z, hz, rfl⟩ : ∃ z, ns[i]? = some z ∧ y = V.int z := by
        rw [List.getElem?_map] at hi
        cases e : ns[i]? with
        | none =>
          rw [e] at hi
          cases hi
        | some z =>
          rw [e] at hi
          exact ⟨z, rfl, (Option.some.inj hi).symm⟩
      refine ⟨rfl, ?_⟩
      have step : ∃ acc, H' D = some (.lst acc) ∧ acc.length < sizeLine ∧ (upd H' D (.lst (acc ++ [V.int z]))) D = some (.lst ((ns.take (i + 1)).map V.int)) ∧ (upd H' D (.lst (acc ++ [V.int z]))) p = some (.lst (ns.map V.int)) ∧
          ∀ c, c ≠ D → c ≠ p → (upd H' D (.lst (acc ++ [V.int z]))) c = H c := by
        refine ⟨_, g1, ?_, ?_⟩
        · rw [List.length_map, List.length_take]
          exact small1000 (by omega)
        · refine ⟨?_, by rw [upd_ne hpD]; exact g2, fun c h1 h2 => by rw [upd_ne h1]; exact g3 c h1 h2⟩
          rw [upd_same, List.take_succ, hz, Option.toList_some, List.map_append]
          rfl
      exact ⟨V.int z, rfl, .inl ⟨z, rfl, step⟩⟩
    · rintro H' ⟨g1, g2, g3⟩
      rw [List.length_map, List.take_length] at g1
      refine ⟨(by show 4 ≤ sizeLine; decide), fun b hb => ?_⟩
      have hDb : D ≠ b := ne_of_none g1 hb
      have hpb : p ≠ b := ne_of_none g2 hb
      refine k b D _ ⟨ns, 0, 0, 0, upd_same, by rw [upd_ne hDb]; exact g1, h63⟩ (by rw [← g3 b (Ne.symm hDb) (Ne.symm hpb)]; exact hb) hD0 fun c o hc => ?_
      have n1 : c ≠ D := ne_of_none hc hD0
      have n2 : c ≠ p := ne_of_none hc hp
      have n3 : c ≠ b := fun z => by
        rw [z, ← g3 b (Ne.symm hDb) (Ne.symm hpb), hb] at hc
        cases hc
      rw [upd_ne n3, g3 c n1 n2]
      exact hc
end
end Law
namespace Law
open PySem PySem.Spec PyProof.Rows L2 Sup
abbrev sErr : Stmt := inClass (top 3) 0
abbrev sChk : Stmt := top 13
/-- the way out by BadNumber -/
def Bad (C : Addr) (E : XK) (H : Hp) (v : Int) : Prop := ∀ d, H d = none → E (.ref C) (some d) (upd H d (.xd [("value", .int v)]))
def spChk (C : Addr) : Sp := fun vs H Q E => ∃ i : Int, vs = [.int i] ∧ i.natAbs < 2 ^ 1000 ∧ (i < 0 → Bad C E H i) ∧ (0 ≤ i → Q .non H)
theorem log_of {i : Int} {k : Nat} (hk : 0 < k) (h : i.natAbs < 2 ^ k) : i.natAbs.log2 < k := by
  by_cases hz : i.natAbs = 0
  · rw [hz, Nat.log2_zero]
    exact hk
  · exact (Nat.log2_lt hz).mpr h
section
variable {P : Program} {w : World} {K : PySem.W.Frag} {mg : Str → Option Value} {base : Heap} {C : Addr}
theorem scChk : FnScope ["number"] ["number"] (defScope sChk) := ⟨rfl, rfl, rfl, by decide +kernel, rfl, by decide +kernel, by decide +kernel⟩
theorem ok_chk {f : Addr} {fd : FuncData} (F : Fun K "check_not_negative" "check_not_negative" sChk f fd) (R : ErrOk P w K mg base "BadNumber" C "value" okInt) : FnOk P w K mg base (L2.CX P w) 4 f fd ["number"] (spChk C) := by
  refine F.okX scChk (fun vs H Q E h => ?_) (fun cdv A outer s H vs Q E hr h => ?_)
  · obtain ⟨i, rfl, _⟩ := h
    rfl
  · obtain ⟨i, rfl, hi, h1, h2⟩ := h
    refine ⟨_, pss_one (ps_if (pt_cmpR op_lt (pv 0) pe_int (nomark _)) (pss_one (ps_err R rfl (takes_of rfl rfl rfl rfl) hr (pa_cons (pv 0) pa_nil) rfl)) pss_nil), ?_⟩
    refine ⟨_, rfl, _, _, rfl, rfl, _, rfl, ?_⟩
    by_cases c : i < 0
    · refine if_t (decide_eq_true c) ⟨_, rfl, err_way ⟨i, rfl, log_of (by decide) (Nat.lt_of_lt_of_le hi (Nat.pow_le_pow_right (by decide) (by decide)))⟩ (h1 c)⟩
    · exact if_f (decide_eq_false c) (h2 (by omega))
end
def Sz (i : Int) : Prop := i.natAbs < 2 ^ 200
theorem Sz.mul {a b : Int} (ha : a.natAbs < 2 ^ 300) (hb : b.natAbs < 2 ^ 300) : CMulW a b := wide_mul ha hb (by decide) (by decide) (by decide)
theorem Sz.w {a : Int} (ha : Sz a) : a.natAbs < 2 ^ 300 := Nat.lt_of_lt_of_le ha (Nat.pow_le_pow_right (by decide) (by decide))
theorem Sz.t {a : Int} (ha : Sz a) : a.natAbs < 2 ^ 1000 := Nat.lt_of_lt_of_le ha (Nat.pow_le_pow_right (by decide) (by decide))
theorem Sz.of {i : Int} (h : i.natAbs ≤ 10 ^ 42) : Sz i := Nat.lt_of_le_of_lt h (by decide +kernel)
theorem pow_ok {j : Int} (h : 0 ≤ j ∧ j ≤ 1000000) : CPow 10 j := ⟨h.1, h.2, by decide⟩
theorem size_fit {n : Int} (h0 : 0 < n) (h : n ≤ 10 ^ 40) : n.natAbs < 2 ^ 8000 := by
  have h1 : n.natAbs ≤ 10 ^ 40 := by omega
  exact Nat.lt_of_le_of_lt h1 (by decide +kernel)
end Law

namespace Law
open PySem PySem.Spec PyProof.Rows L2 Sup
abbrev sCkn : Stmt := top 12
abbrev sRini : Stmt := inClass (top 17) 0
abbrev sPut : Stmt := inClass (top 17) 1
abbrev sNms : Stmt := inClass (top 17) 2
abbrev sLof : Stmt := inClass (top 17) 3
abbrev sLen : Stmt := inClass (top 17) 7
abbrev sCon : Stmt := inClass (top 17) 8
def letters : Str := "abcdefghijklmnopqrstuvwxyz"
/-- a name that breaks the rule for names -/
def badN (y : Str) : Bool := decide (y.length < 1) || decide (12 < y.length) || y.cps.toList.any fun c => !decide (c ∈ letters.cps.toList)
/-- a text that errors may tell -/
def Fit (y : Str) : Prop := y.length ≤ 60 ∧ ∀ c ∈ y.cps.toList, c < 1114112
theorem Fit.ok {y : Str} (h : Fit y) : okTxt (.str y) := ⟨y, rfl, by
  have := StrLaws.reprText_len y fun c hc => Nat.lt_of_lt_of_le (h.2 c hc) (by decide)
  have := h.1
  omega⟩
/-- the way out by an own error with one field, from a heap in which all stands as it stood -/
def BadX (C : Addr) (fl : Str) (E : XK) (H : Hp) (v : V) : Prop := ∀ (H' : Hp) (d : Addr), Same H H' → H' d = none → E (.ref C) (some d) (upd H' d (.xd [(fl, v)]))
abbrev Row := Str × Int
def kvs (rows : List Row) : List (Key × V) := rows.map fun p => (.inr p.1, .int p.2)
def known (rows : List Row) (y : Str) : Bool := (rows.map (·.1)).contains y
/-- a rack of the class at CR, its dict at d, with these ladders -/
def Rck (CR : Addr) (H : Hp) (r d : Addr) (rows : List Row) : Prop := (∃ dx fs, H r = some (.ins CR dx fs) ∧ fs.lookup ("_lengths" : Str) = some (V.ref d) ∧ ∀ m : Str, m ≠ "_lengths" → fs.lookup m = none) ∧ H d = some (.dK (kvs rows))
theorem Rck.ne {CR : Addr} {H : Hp} {r d : Addr} {rows : List Row} (h : Rck CR H r d rows) : r ≠ d := fun z => by
  obtain ⟨⟨dx, fs, h1, _⟩, h2⟩ := h
  rw [z, h2] at h1
  cases h1
theorem Rck.same {CR : Addr} {H H' : Hp} {r d : Addr} {rows : List Row} (h : Rck CR H r d rows) (s : Same H H') : Rck CR H' r d rows := by
  obtain ⟨⟨dx, fs, h1, h2⟩, h3⟩ := h
  exact ⟨⟨dx, fs, s _ _ h1, h2⟩, s _ _ h3⟩
theorem Rck.put {CR : Addr} {H : Hp} {r d : Addr} {rows rows' : List Row} (h : Rck CR H r d rows) : Rck CR (upd H d (.dK (kvs rows'))) r d rows' := by
  have n := h.ne
  obtain ⟨⟨dx, fs, h1, h2⟩, h3⟩ := h
  exact ⟨⟨dx, fs, by rw [upd_ne n]; exact h1, h2⟩, upd_same⟩
theorem val_kvs (y : Str) : ∀ rows : List Row, valV (kvs rows) (.inr y) = (rows.lookup y).map V.int
  | [] => rfl
  | (x, L) :: r => by
    have ih := val_kvs y r
    show valV ((.inr x, V.int L) :: kvs r) (.inr y) = _
    by_cases e : x = y
    · subst e
      rw [valV_pos rfl]
      simp [List.lookup]
    · rw [valV_neg (fun z => e (Sum.inr.inj z)), ih]
      have q : (y == x) = false := by simpa using fun z => e z.symm
      simp [List.lookup, q]
theorem known_iff (y : Str) : ∀ rows : List Row, known rows y = (rows.lookup y).isSome
  | [] => rfl
  | (x, L) :: r => by
    have ih := known_iff y r
    unfold known at ih ⊢
    rw [List.map_cons, List.contains_cons]
    by_cases e : y = x
    · subst e
      simp [List.lookup]
    · have q : (y == x) = false := by simpa using e
      rw [q, Bool.false_or, ih]
      simp [List.lookup, q]
theorem put_kvs {rows : List Row} {y : Str} (L : Int) (h : known rows y = false) : putK (kvs rows) (.inr y) (.int L) = kvs (rows ++ [(y, L)]) := by
  rw [known_iff] at h
  rw [putK_new _ (by rw [val_kvs]; cases e : rows.lookup y with | none => rfl | some v => rw [e] at h; cases h)]
  unfold kvs
  rw [List.map_append]
  rfl
/-- the first error that is due where a ladder is put -/
inductive Due where
  | name | taken | number | many | put
  deriving DecidableEq
def due (rows : List Row) (y : Str) (L : Int) : Due := if badN y = true then .name else if known rows y = true then .taken else if L < 0 then .number else if 8 ≤ rows.length then .many else .put
structure Errs where
  N : Addr
  T : Addr
  B : Addr
  M : Addr
  U : Addr
/-- the same, from any heap of which S is true -/
def BadW (S : Hp → Prop) (C : Addr) (fl : Str) (E : XK) (v : V) : Prop := ∀ (H' : Hp) (d : Addr), S H' → H' d = none → E (.ref C) (some d) (upd H' d (.xd [(fl, v)]))
def RefusedW (S : Hp → Prop) (C : Errs) (E : XK) (rows : List Row) (y : Str) (L : Int) : Prop := (due rows y L = .name → BadW S C.N "name" E (.str y)) ∧ (due rows y L = .taken → BadW S C.T "name" E (.str y)) ∧
  (due rows y L = .number → BadW S C.B "value" E (.int L)) ∧ (due rows y L = .many → BadW S C.M "count" E (.int ((rows.length : Int) + 1)))
def Refused (C : Errs) (E : XK) (H : Hp) (rows : List Row) (y : Str) (L : Int) : Prop := (due rows y L = .name → BadX C.N "name" E H (.str y)) ∧ (due rows y L = .taken → BadX C.T "name" E H (.str y)) ∧
  (due rows y L = .number → BadX C.B "value" E H (.int L)) ∧ (due rows y L = .many → BadX C.M "count" E H (.int ((rows.length : Int) + 1)))
theorem RefusedW.at {S : Hp → Prop} {C : Errs} {E : XK} {H : Hp} {rows : List Row} {y : Str} {L : Int} (h : RefusedW S C E rows y L) (k : ∀ H', Same H H' → S H') : Refused C E H rows y L :=
  ⟨fun c H' d s hd => h.1 c H' d (k H' s) hd, fun c H' d s hd => h.2.1 c H' d (k H' s) hd, fun c H' d s hd => h.2.2.1 c H' d (k H' s) hd, fun c H' d s hd => h.2.2.2 c H' d (k H' s) hd⟩
/-- the first ladder that is refused where they are put one by one, with those put ahead of it -/
def firstBad : List Row → List Row → Option (List Row × Str × Int)
  | _, [] => none
  | acc, (y, L) :: r => if due acc y L = .put then firstBad (acc ++ [(y, L)]) r else some (acc, y, L)
/-- all but x and d stands as it stood -/
def But (x d : Addr) (H : Hp) : Hp → Prop := fun H' => ∀ b o, b ≠ x → b ≠ d → H b = some o → H' b = some o
def spRini (C : Errs) (CR : Addr) : Sp := fun vs H Q E => ∃ (x dx d0 : Addr) (rows : List Row), vs = [.ref x, .ref d0] ∧ H x = some (.ins CR dx []) ∧ H d0 = some (.dK (kvs rows)) ∧ rows.length ≤ 60 ∧ (∀ p ∈ rows, Fit p.1 ∧ p.2.natAbs < 2 ^ 1000) ∧
  (8 < rows.length → BadW (But x d0 H) C.M "count" E (.int rows.length)) ∧ (rows.length ≤ 8 → (∀ acc y L, firstBad [] rows = some (acc, y, L) → RefusedW (But x d0 H) C E acc y L) ∧
    (firstBad [] rows = none → ∀ d H', H d = none → Rck CR H' x d rows → But x d0 H H' → Q .non H'))
def spCkn (C : Errs) : Sp := fun vs H Q E => ∃ y : Str, vs = [.str y] ∧ Fit y ∧ (badN y = true → BadX C.N "name" E H (.str y)) ∧ (badN y = false → Q .non H)
def spPut (C : Errs) (CR : Addr) : Sp := fun vs H Q E => ∃ (r d : Addr) (rows : List Row) (y : Str) (L : Int), vs = [.ref r, .str y, .int L] ∧ Rck CR H r d rows ∧ rows.length ≤ 60 ∧ Fit y ∧ L.natAbs < 2 ^ 1000 ∧ Refused C E H rows y L ∧
  (due rows y L = .put → Q .non (upd H d (.dK (kvs (rows ++ [(y, L)])))))
def spNms (CR : Addr) : Sp := fun vs H Q _ => ∃ (r d : Addr) (rows : List Row), vs = [.ref r] ∧ Rck CR H r d rows ∧ ∀ p, H p = none → Q (.ref p) (upd H p (.lst (rows.map fun x => V.str x.1)))
def spLof (C : Errs) (CR : Addr) : Sp := fun vs H Q E => ∃ (r d : Addr) (rows : List Row) (y : Str), vs = [.ref r, .str y] ∧ Rck CR H r d rows ∧ Fit y ∧ (rows.lookup y = none → BadX C.U "name" E H (.str y)) ∧ (∀ L, rows.lookup y = some L → Q (.int L) H)
def spLen (CR : Addr) : Sp := fun vs H Q _ => ∃ (r d : Addr) (rows : List Row), vs = [.ref r] ∧ Rck CR H r d rows ∧ Q (.int rows.length) H
def spCon (CR : Addr) : Sp := fun vs H Q _ => ∃ (r d : Addr) (rows : List Row) (y : Str), vs = [.ref r, .str y] ∧ Rck CR H r d rows ∧ Q (.bl (known rows y)) H
structure RackTxt (K : PySem.W.Frag) (mg : Str → Option Value) (CR fN fK : Addr) : Prop where
  letters : ∃ t, mg "LETTERS" = some (.str letters t)
  longest : ∃ t, mg "LONGEST_NAME" = some (.int 12 t)
  most : ∃ t, mg "MOST_LADDERS" = some (.int 8 t)
  ckn : mg "check_name" = some (.ref fN)
  chk : mg "check_not_negative" = some (.ref fK)
  len : mg "len" = none
  list : mg "list" = none
  cl : Cls K CR
  nD : NoAttr K CR "_lengths"
section
variable {P : Program} {w : World} {K : PySem.W.Frag} {mg : Str → Option Value} {base : Heap} {C : Errs} {CR fN fK : Addr}
theorem scCkn : FnScope ["name", "letter"] ["name"] (defScope sCkn) := ⟨rfl, rfl, rfl, by decide +kernel, rfl, by decide +kernel, by decide +kernel⟩
theorem ok_ckn {f : Addr} {fd : FuncData} (F : Fun K "check_name" "check_name" sCkn f fd) (RN : ErrOk P w K mg base "BadName" C.N "name" okTxt) (T : RackTxt K mg CR fN fK) : FnOk P w K mg base (L2.CX P w) 4 f fd ["name"] (spCkn C) := by
  obtain ⟨t1, T1⟩ := T.letters
  obtain ⟨t2, T2⟩ := T.longest
  refine F.okX scCkn (fun vs H Q E h => ?_) (fun cdv A outer s H vs Q E hr h => ?_)
  · obtain ⟨y, rfl, _⟩ := h
    rfl
  · obtain ⟨y, rfl, fy, h1, h2⟩ := h
    have hr3 : Room 3 _ := hr
    refine ⟨_, (pss_cons (ps_if (pt_not (pt_chain op_le op_le pe_int (pe_callB call_len_str (by rfl) T.len PySem.boot_len (pa_cons (pv 0) pa_nil)) (pe_glob (v := .int 12) rfl T2 ⟨_, rfl⟩))) (pss_one (ps_err RN rfl (takes_of rfl rfl rfl rfl) hr3 (pa_cons (pv 0) pa_nil) rfl)) pss_nil)
      (pss_one (ps_for (passes_of rfl) rfl (pi_str (pv 0)) (pg_name (i := 1) scCkn.nd rfl (Or.inl rfl)) (pss_one (ps_if (pt_cmpR op_notIn_sign (pv 1) (pe_glob (v := .str letters) rfl T1 ⟨_, rfl⟩) rfl) (pss_one (ps_err RN rfl (takes_of rfl rfl rfl rfl) hr3 (pa_cons (pv 0) pa_nil) rfl)) pss_nil))))), ?_⟩
    have way : badN y = true → okTxt (.str y) ∧ ∀ d, H d = none → E (.ref C.N) (some d) (upd H d (.xd [("name", .str y)])) := fun hb => ⟨fy.ok, fun d hd => h1 hb H d (fun _ _ e => e) hd⟩
    refine ⟨_, rfl, y, rfl, by have := fy.1; rw [sizeLine_eq]; omega, _, _, rfl, rfl, _, rfl, ?_⟩
    by_cases c0 : (1 : Int) ≤ (y.length : Int)
    · refine if_t (decide_eq_true c0) ⟨_, _, rfl, rfl, _, rfl, ?_⟩
      by_cases c1 : (y.length : Int) ≤ 12
      · refine if_f (by rw [decide_eq_true c1]; rfl) ?_
        have e0 : decide (y.length < 1) = false := decide_eq_false (by omega)
        have e1 : decide (12 < y.length) = false := decide_eq_false (by omega)
        refine ⟨_, rfl, y, rfl, for_it walk_str (fun i σ' H' => ∃ v : Option V, σ' = [some (.str y), v] ∧ H' = H ∧ (y.cps.toList.take i).any (fun c => !decide (c ∈ letters.cps.toList)) = false) ⟨_, rfl, rfl, by simp⟩ (fun _ _ _ _ _ => True.intro) ?_ ?_⟩
        · rintro i x σ' H' H'' hi ⟨v, rfl, rfl, ha⟩ ⟨rfl, c, hc, rfl⟩
          have hc' : y.cps.toList[i]? = some c := by rw [← hc]; simp
          refine ⟨_, rfl, c, letters, rfl, rfl, _, rfl, ?_⟩
          by_cases cl : c ∈ letters.cps.toList
          · refine if_f (by rw [decide_eq_true cl]; rfl) ⟨_, rfl, rfl, ?_⟩
            rw [List.take_succ, hc', Option.toList_some, List.any_append, ha, List.any_cons, decide_eq_true cl]
            rfl
          · refine if_t (by rw [decide_eq_false cl]; rfl) ⟨_, rfl, ?_⟩
            obtain ⟨z1, z2⟩ := way (by
              unfold badN
              have : y.cps.toList.any (fun c => !decide (c ∈ letters.cps.toList)) = true := List.any_eq_true.mpr ⟨c, List.mem_of_getElem? hc', by simp [cl]⟩
              rw [this, Bool.or_true])
            exact err_way z1 z2
        · rintro σ' H' ⟨v, rfl, rfl, ha⟩
          refine h2 ?_
          unfold badN
          rw [e0, e1]
          rw [List.take_of_length_le (by simp)] at ha
          rw [ha]
          rfl
      · refine if_t (by rw [decide_eq_false c1]; rfl) ⟨_, rfl, ?_⟩
        obtain ⟨z1, z2⟩ := way (by
          unfold badN
          rw [decide_eq_true (show 12 < y.length by omega), Bool.or_true, Bool.true_or])
        exact err_way z1 z2
    · refine if_f (decide_eq_false c0) ⟨_, rfl, ?_⟩
      refine if_t rfl ⟨_, rfl, ?_⟩
      obtain ⟨z1, z2⟩ := way (by
        unfold badN
        rw [decide_eq_true (show y.length < 1 by omega), Bool.true_or, Bool.true_or])
      exact err_way z1 z2
theorem scPut : FnScope ["self", "name", "length"] ["self", "name", "length"] (defScope sPut) := ⟨rfl, rfl, rfl, by decide +kernel, rfl, by decide +kernel, by decide +kernel⟩
theorem ok_put {f : Addr} {fd fdN fdK : FuncData} (F : Fun K "put" "Rack.put" sPut f fd) (RN : ErrOk P w K mg base "BadName" C.N "name" okTxt) (RT : ErrOk P w K mg base "TakenName" C.T "name" okTxt) (RB : ErrOk P w K mg base "BadNumber" C.B "value" okInt) (RM : ErrOk P w K mg base "TooMany" C.M "count" okInt)
    (FN : Fun K "check_name" "check_name" sCkn fN fdN) (bN : Binds K fdN ["name"] []) (FK : Fun K "check_not_negative" "check_not_negative" sChk fK fdK) (bK : Binds K fdK ["number"] []) (T : RackTxt K mg CR fN fK) : FnOk P w K mg base (L2.CX P w) 5 f fd ["self", "name", "length"] (spPut C CR) := by
  have GN : FnOk P w K mg base (L2.CX P w) 4 fN fdN ["name"] (spCkn C) := ok_ckn FN RN T
  have GK : FnOk P w K mg base (L2.CX P w) 4 fK fdK ["number"] (spChk C.B) := ok_chk FK RB
  obtain ⟨t3, T3⟩ := T.most
  refine F.okX scPut (fun vs H Q E h => ?_) (fun cdv A outer s H vs Q E hr h => ?_)
  · obtain ⟨r, d, rows, y, L, rfl, _⟩ := h
    rfl
  · obtain ⟨r, d, rows, y, L, rfl, hR, h60, fy, sL, ⟨r1, r2, r3, r4⟩, k⟩ := h
    have hr3 : Room 3 _ := hr.mono (by decide)
    refine ⟨_, (pss_cons (ps_expr (pe_call (E := E) GN hr rfl T.ckn FN.kp bN .nil (passes_call (takes_of rfl rfl rfl rfl) fun _ _ _ _ z => z) (pa_cons (pv 1) pa_nil)))
      (pss_cons (ps_if (pt_cmp (pc_din (hu_of hr) (pv 1) (pe_fld (pv 0) rfl))) (pss_one (ps_err RT rfl (takes_of rfl rfl rfl rfl) hr3 (pa_cons (pv 1) pa_nil) rfl)) pss_nil)
      (pss_cons (ps_expr (pe_call (E := E) GK hr rfl T.chk FK.kp bK .nil (passes_call (takes_of rfl rfl rfl rfl) fun _ _ _ _ z => z) (pa_cons (pv 2) pa_nil)))
      (pss_cons (ps_if (pt_cmpR op_ge (pe_callB call_lenD (by rfl) T.len PySem.boot_len (pa_cons (pe_fld (pv 0) rfl) pa_nil)) (pe_glob (v := .int 8) rfl T3 ⟨_, rfl⟩) (nomark _)) (pss_one (ps_err RM rfl (takes_of rfl rfl rfl rfl) hr3 (pa_cons (pe_op op_add (pe_callB call_lenD (by rfl) T.len PySem.boot_len (pa_cons (pe_fld (pv 0) rfl) pa_nil)) pe_int) pa_nil) rfl)) pss_nil)
      (pss_one (ps_dput (hu_of hr) (pe_fld (pv 0) rfl) (pv 1) (pv 2) rfl)))))), ?_⟩
    obtain ⟨⟨dx, fs, h1, h2, _⟩, h3⟩ := id hR
    refine ⟨_, rfl, y, rfl, fy, fun hb => r1 (by unfold due; rw [if_pos hb]), fun hb => ?_⟩
    have hb' : ¬ (badN y = true) := by rw [hb]; decide
    refine ⟨_, rfl, _, rfl, r, CR, dx, fs, _, rfl, h1, T.cl, T.nD, h2, d, _, rfl, DGet.k (k := .inr y) h3, _, rfl, ?_⟩
    rw [val_kvs, Option.isSome_map, ← known_iff]
    by_cases hk : known rows y = true
    · refine if_t hk ⟨_, rfl, ?_⟩
      exact err_way fy.ok fun d' hd' => r2 (by unfold due; rw [if_neg hb', if_pos hk]) H d' (fun _ _ e => e) hd'
    · have hk' : known rows y = false := by simpa using hk
      refine if_f hk' ?_
      refine ⟨_, rfl, L, rfl, sL, fun c d' hd' => r3 (by unfold due; rw [if_neg hb', if_neg hk, if_pos c]) H d' (fun _ _ e => e) hd', fun c => ?_⟩
      have c' : ¬ L < 0 := by omega
      refine ⟨_, rfl, r, CR, dx, fs, _, rfl, h1, T.cl, T.nD, h2, d, _, rfl, h3, _, _, rfl, rfl, _, rfl, ?_⟩
      have lk : (kvs rows).length = rows.length := by unfold kvs; rw [List.length_map]
      rw [lk]
      by_cases c8 : (8 : Int) ≤ (rows.length : Int)
      · refine if_t (decide_eq_true c8) ⟨_, rfl, r, CR, dx, fs, _, rfl, h1, T.cl, T.nD, h2, d, _, rfl, h3, _, _, rfl, rfl, ?_⟩
        rw [lk]
        have m8 : due rows y L = .many := by unfold due; rw [if_neg hb', if_neg hk, if_neg c', if_pos (by omega)]
        exact err_way ⟨_, rfl, log_of (by decide) (Nat.lt_of_le_of_lt (show ((rows.length : Int) + 1).natAbs ≤ 61 by omega) (by decide +kernel))⟩ fun d' hd' => r4 m8 H d' (fun _ _ e => e) hd'
      · refine if_f (decide_eq_false c8) ?_
        refine ⟨_, rfl, _, rfl, r, CR, dx, fs, _, rfl, h1, T.cl, T.nD, h2, _, rfl, d, _, rfl, DPut.k (k := .inr y) h3 (by rw [lk]; exact small1000 (by omega)), ?_⟩
        rw [put_kvs L hk']
        exact k (by unfold due; rw [if_neg hb', if_neg hk, if_neg c', if_neg (by omega)])
theorem scNms : FnScope ["self"] ["self"] (defScope sNms) := ⟨rfl, rfl, rfl, by decide +kernel, rfl, by decide +kernel, by decide +kernel⟩
theorem ok_nms {f : Addr} {fd : FuncData} (F : Fun K "names" "Rack.names" sNms f fd) (T : RackTxt K mg CR fN fK) : FnOk P w K mg base CX0 1 f fd ["self"] (spNms CR) := by
  refine F.ok scNms (fun vs H Q E h => ?_) (fun cdv A outer s H vs Q E hr h => ?_)
  · obtain ⟨r, d, rows, rfl, _⟩ := h
    rfl
  · obtain ⟨r, d, rows, rfl, hR, k⟩ := h
    refine ⟨_, (pss_one (ps_ret (pe_callTy (call_listD rfl) (by rfl) T.list (by decide +kernel) (pa_cons (pe_fld (pv 0) rfl) pa_nil)))), ?_⟩
    obtain ⟨⟨dx, fs, h1, h2, _⟩, h3⟩ := id hR
    refine ⟨_, rfl, r, CR, dx, fs, _, rfl, h1, T.cl, T.nD, h2, d, _, rfl, .inl h3, fun p hp => ?_⟩
    have e : (kvs rows).map (fun kv => kV kv.1) = rows.map fun x => V.str x.1 := by
      unfold kvs
      rw [List.map_map]
      rfl
    rw [e]
    exact k p hp
theorem scLof : FnScope ["self", "name"] ["self", "name"] (defScope sLof) := ⟨rfl, rfl, rfl, by decide +kernel, rfl, by decide +kernel, by decide +kernel⟩
theorem ok_lof {f : Addr} {fd : FuncData} (F : Fun K "length_of" "Rack.length_of" sLof f fd) (RU : ErrOk P w K mg base "UnknownName" C.U "name" okTxt) (T : RackTxt K mg CR fN fK) : FnOk P w K mg base (L2.CX P w) 4 f fd ["self", "name"] (spLof C CR) := by
  refine F.okX scLof (fun vs H Q E h => ?_) (fun cdv A outer s H vs Q E hr h => ?_)
  · obtain ⟨r, d, rows, y, rfl, _⟩ := h
    rfl
  · obtain ⟨r, d, rows, y, rfl, hR, fy, k1, k2⟩ := h
    have hr3 : Room 3 _ := hr
    refine ⟨_, (pss_cons (ps_if (pt_cmp (pc_dnotin (hu_of hr) (pv 1) (pe_fld (pv 0) rfl))) (pss_one (ps_err RU rfl (takes_of rfl rfl rfl rfl) hr3 (pa_cons (pv 1) pa_nil) rfl)) pss_nil)
      (pss_one (ps_ret (pe_dget (hu_of hr) (pe_fld (pv 0) rfl) (pv 1) (fun _ _ => rfl))))), ?_⟩
    obtain ⟨⟨dx, fs, h1, h2, _⟩, h3⟩ := id hR
    refine ⟨_, rfl, _, rfl, r, CR, dx, fs, _, rfl, h1, T.cl, T.nD, h2, d, _, rfl, DGet.k (k := .inr y) h3, _, rfl, ?_⟩
    have ev := val_kvs y rows
    cases e : rows.lookup y with
    | none =>
      rw [e] at ev
      rw [ev]
      refine if_t rfl ⟨_, rfl, ?_⟩
      exact err_way fy.ok fun d' hd' => k1 e H d' (fun _ _ e => e) hd'
    | some L =>
      rw [e] at ev
      rw [ev]
      refine if_f rfl ?_
      refine ⟨_, rfl, r, CR, dx, fs, _, rfl, h1, T.cl, T.nD, h2, _, rfl, d, _, rfl, ?_, k2 L e⟩
      have z := DGet.k (k := .inr y) h3
      rw [ev] at z
      exact z
theorem scLen : FnScope ["self"] ["self"] (defScope sLen) := ⟨rfl, rfl, rfl, by decide +kernel, rfl, by decide +kernel, by decide +kernel⟩
theorem ok_len {f : Addr} {fd : FuncData} (F : Fun K "__len__" "Rack.__len__" sLen f fd) (T : RackTxt K mg CR fN fK) : FnOk P w K mg base CX0 1 f fd ["self"] (spLen CR) := by
  refine F.ok scLen (fun vs H Q E h => ?_) (fun cdv A outer s H vs Q E hr h => ?_)
  · obtain ⟨r, d, rows, rfl, _⟩ := h
    rfl
  · obtain ⟨r, d, rows, rfl, hR, k⟩ := h
    refine ⟨_, (pss_one (ps_ret (pe_callB call_lenD (by rfl) T.len PySem.boot_len (pa_cons (pe_fld (pv 0) rfl) pa_nil)))), ?_⟩
    obtain ⟨⟨dx, fs, h1, h2, _⟩, h3⟩ := id hR
    refine ⟨_, rfl, r, CR, dx, fs, _, rfl, h1, T.cl, T.nD, h2, d, _, rfl, h3, ?_⟩
    have lk : (kvs rows).length = rows.length := by unfold kvs; rw [List.length_map]
    rw [lk]
    exact k
theorem scCon : FnScope ["self", "name"] ["self", "name"] (defScope sCon) := ⟨rfl, rfl, rfl, by decide +kernel, rfl, by decide +kernel, by decide +kernel⟩
theorem ok_con {f : Addr} {fd : FuncData} (F : Fun K "__contains__" "Rack.__contains__" sCon f fd) (T : RackTxt K mg CR fN fK) : FnOk P w K mg base CX0 1 f fd ["self", "name"] (spCon CR) := by
  refine F.ok scCon (fun vs H Q E h => ?_) (fun cdv A outer s H vs Q E hr h => ?_)
  · obtain ⟨r, d, rows, y, rfl, _⟩ := h
    rfl
  · obtain ⟨r, d, rows, y, rfl, hR, k⟩ := h
    refine ⟨_, (pss_one (ps_ret (pe_cmp (pc_din (hu_of hr) (pv 1) (pe_fld (pv 0) rfl)) rfl))), ?_⟩
    obtain ⟨⟨dx, fs, h1, h2, _⟩, h3⟩ := id hR
    refine ⟨_, rfl, _, rfl, r, CR, dx, fs, _, rfl, h1, T.cl, T.nD, h2, d, _, rfl, DGet.k (k := .inr y) h3, ?_⟩
    rw [val_kvs, Option.isSome_map, ← known_iff]
    exact k
theorem scRini : FnScope ["self", "lengths", "name", "length"] ((["self"] : List Str) ++ ([("lengths" : Str)] : List Str)) (defScope sRini) := ⟨rfl, rfl, rfl, by decide +kernel, rfl, by decide +kernel, by decide +kernel⟩
theorem ok_rini {f fP : Addr} {fd fdP : FuncData} {ks : List Str} (F : Fun K "__init__" "Rack.__init__" sRini f fd) (RM : ErrOk P w K mg base "TooMany" C.M "count" okInt) (GP : FnOk P w K mg base (L2.CX P w) 5 fP fdP ["self", "name", "length"] (spPut C CR)) (MP : Meth K CR "put" fP) (bP : Binds K fdP ["self", "name", "length"] [])
    (hks : ks.Nodup) (hk60 : ks.length ≤ 60)
    (hb : ∀ us ws : List Value, us.length = 1 → ws.length = ks.length → bindArgs fd ⟨us, ks.zip ws⟩ =
      ((alloc ({ cls := .type "dict", data := .dict #[] } : Obj) : Sem Addr) >>= fun d => (forIn (ks.zip ws) PUnit.unit fun x _ => (nsSet d x.1 x.2 >>= fun _ => pure (ForInStep.yield PUnit.unit))) >>= fun _ => pure ((["self"] : List Str).zip us ++ [(("lengths" : Str), Value.ref d)])))
    (T : RackTxt K mg CR fN fK) : KwX.FnKw P w K mg base (L2.CX P w) 6 f ks (spRini C CR) := by
  obtain ⟨oc, od, kVx, doc, pm, an, cdv, ct, osl, rfl, lk, hcd⟩ := F.ex
  obtain ⟨t3, T3⟩ := T.most
  refine KwX.fn_kw (ps := ["self"]) (pd := "lengths") (sp := spRini C CR) (k := 5) lk hcd scRini StX.cxUp hks hk60 (fun vs H Q E h => ?_) hb fun A outer s H vs Q E hr h => ?_
  · obtain ⟨x, dx, d0, rows, rfl, _⟩ := h
    rfl
  · obtain ⟨x, dx, d0, rows, rfl, hx, hd0, h60, hall, h1, h2⟩ := h
    have hr3 : Room 3 _ := hr.mono (by decide)
    refine ⟨_, (pss_cons (ps_if (pt_cmpR op_gt (pe_callB call_lenD (by rfl) T.len PySem.boot_len (pa_cons (pv 1) pa_nil)) (pe_glob (v := .int 8) rfl T3 ⟨_, rfl⟩) (nomark _)) (pss_one (ps_err RM rfl (takes_of rfl rfl rfl rfl) hr3 (pa_cons (pe_callB call_lenD (by rfl) T.len PySem.boot_len (pa_cons (pv 1) pa_nil)) pa_nil) rfl)) pss_nil)
      (pss_cons (ps_fld (pv 0) pe_dnewK rfl)
      (pss_one (ps_lock (ps_for (passes_of rfl) rfl (pi_items (pv 1)) (pg_tup (by rfl) (pgs_cons (pg_name (i := 2) scRini.nd rfl (Or.inl rfl)) (pgs_cons (pg_name (i := 3) scRini.nd rfl (Or.inl rfl)) pgs_nil))) (pss_one (ps_expr (pe_meth (pv 0) T.cl MP GP hr bP .nil (passes_call (takes_of rfl rfl rfl rfl) fun _ _ _ _ z => z) (pa_cons (pv 2) (pa_cons (pv 3) pa_nil)))))))))), ?_⟩
    have lk : (kvs rows).length = rows.length := by unfold kvs; rw [List.length_map]
    have nxd : x ≠ d0 := fun z => by
      rw [z, hd0] at hx
      cases hx
    refine ⟨_, rfl, d0, _, rfl, hd0, _, _, rfl, rfl, _, rfl, ?_⟩
    rw [lk]
    by_cases c8 : (8 : Int) < (rows.length : Int)
    · refine if_t (decide_eq_true c8) ⟨_, rfl, d0, _, rfl, hd0, ?_⟩
      rw [lk]
      exact err_way ⟨_, rfl, log_of (by decide) (Nat.lt_of_le_of_lt (show ((rows.length : Int)).natAbs ≤ 61 by omega) (by decide +kernel))⟩ fun d' hd' => h1 (by omega) H d' (fun _ _ _ _ e => e) hd'
    · refine if_f (decide_eq_false c8) ?_
      obtain ⟨k1, k2⟩ := h2 (by omega)
      refine fun d hd => ⟨_, rfl, x, CR, dx, _, rfl, by rw [upd_ne (ne_of_none hx hd)]; exact hx, T.cl, T.nD, by show 0 < 1000; decide, ?_⟩
      have ndx : d ≠ x := fun z => by rw [z, hx] at hd; cases hd
      have ndd : d ≠ d0 := fun z => by rw [z, hd0] at hd; cases hd
      have hA0 : (upd (upd H d (.dK [])) x (.ins CR dx (putF "_lengths" (V.ref d) []))) d0 = some (.dK (kvs rows)) := by rw [upd_ne (Ne.symm nxd), upd_ne (Ne.symm ndd)]; exact hd0
      refine ⟨d0, .dK (kvs rows), hA0, trivial, fun od => ?_⟩
      refine ⟨_, rfl, d0, od, kvs rows, rfl, upd_same, ?_⟩
      refine for_it walk_items (fun i σ' H' => ∃ v2 v3 : Option V, σ' = [some (.ref x), some (.ref d0), v2, v3] ∧ H' d0 = some (.frz od (.dK (kvs rows))) ∧ Rck CR H' x d (rows.take i) ∧ firstBad (rows.take i) (rows.drop i) = firstBad [] rows ∧ But x d0 H H')
        ⟨_, _, rfl, upd_same, ⟨⟨dx, _, by rw [upd_ne nxd, upd_same], rfl, fun m hm => ?_⟩, by rw [upd_ne ndd, upd_ne ndx, upd_same]; rfl⟩, rfl, fun b o n1 n2 e => ?_⟩ (fun i σ' H' _ h => ?_) ?_ ?_
      · rw [lookup_putF, if_neg hm]
        rfl
      · rw [upd_ne n2, upd_ne n1, upd_ne (ne_of_none e hd)]
        exact e
      · obtain ⟨_, _, _, h, _⟩ := h
        exact h
      · rintro i z σ' H' H'' hi ⟨v2, v3, rfl, g1, g2, g3, g4⟩ ⟨T, u1, u2, rfl, hT, rfl, e1, e2⟩
        rw [lk] at hi
        obtain ⟨⟨y, L⟩, hyl⟩ : ∃ p, rows[i]? = some p := ⟨_, List.getElem?_eq_getElem hi⟩
        have ek : (kvs rows)[i]? = some (.inr y, .int L) := by
          unfold kvs
          rw [List.getElem?_map, hyl]
          rfl
        obtain rfl : u1 = V.str y := by
          have e1' : Option.map (fun kv : Key × V => kV kv.1) (kvs rows)[i]? = some u1 := e1
          rw [ek] at e1'
          exact (Option.some.inj e1').symm
        obtain rfl : u2 = V.int L := by
          have e2' : Option.map (fun kv : Key × V => kv.2) (kvs rows)[i]? = some u2 := e2
          rw [ek] at e2'
          exact (Option.some.inj e2').symm
        have S : Same H' (upd H' T (.tup [V.str y, .int L])) := fun b o e => by rw [upd_ne (ne_of_none e hT)]; exact e
        have ed : rows.drop i = (y, L) :: rows.drop (i + 1) := by
          rw [List.drop_eq_getElem_cons hi]
          rw [List.getElem?_eq_getElem hi] at hyl
          rw [Option.some.inj hyl]
        have et : rows.take (i + 1) = rows.take i ++ [(y, L)] := by
          rw [List.take_succ, hyl]
          rfl
        have g2' := g2.same S
        obtain ⟨fy, sL⟩ := hall (y, L) (List.mem_of_getElem? hyl)
        obtain ⟨⟨dx', fs', w1, w2, w3⟩, w4⟩ := id g2'
        rw [ed] at g3
        refine ⟨T, _, rfl, SqT.of upd_same, rfl, _, _, rfl, _, _, rfl, rfl, ?_⟩
        refine ⟨_, rfl, ?_⟩
        refine ⟨x, dx', fs', rfl, w1, w3 _ (by decide), _, rfl, _, rfl, x, d, rows.take i, y, L, rfl, g2', by rw [List.length_take]; omega, fy, sL, ?_, fun hp => ?_⟩
        · by_cases hp : due (rows.take i) y L = .put
          · exact ⟨fun c => (by rw [hp] at c; cases c), fun c => (by rw [hp] at c; cases c), fun c => (by rw [hp] at c; cases c), fun c => (by rw [hp] at c; cases c)⟩
          · refine (k1 (rows.take i) y L ?_).at fun H3 s3 b o n1 n2 e => s3 _ _ (S _ _ (g4 b o n1 n2 e))
            rw [← g3]
            show (if due (rows.take i) y L = .put then _ else _) = _
            rw [if_neg hp]
        · refine ⟨_, _, rfl, ?_, ?_, ?_, fun b o n1 n2 e => ?_⟩
          · rw [upd_ne (Ne.symm ndd)]
            exact S _ _ g1
          · rw [et]
            exact g2'.put
          · rw [et, ← g3]
            show _ = (if due (rows.take i) y L = .put then _ else _)
            rw [if_pos hp]
          · have nbd : b ≠ d := fun z => by rw [z, hd] at e; cases e
            rw [upd_ne nbd]
            exact S _ _ (g4 b o n1 n2 e)
      · rintro σ' H' ⟨v2, v3, rfl, g1, g2, g3, g4⟩
        rw [lk, List.take_length] at g2
        rw [lk, List.take_length, List.drop_length] at g3
        refine ⟨g1, k2 g3.symm d _ hd ?_ fun b o n1 n2 e => by rw [upd_ne n2]; exact g4 b o n1 n2 e⟩
        obtain ⟨⟨dx', fs', w1, w2⟩, w3⟩ := g2
        exact ⟨⟨dx', fs', by rw [upd_ne nxd]; exact w1, w2⟩, by rw [upd_ne ndd]; exact w3⟩
end
end Law

namespace Law
open PySem PySem.Spec PyProof.Rows L2 Sup
section
variable {X : Cx} {CX : CXT} {k : Nat} {f : Addr} {sp : Sp} {E : XK} {x : Str} {p pos : Pos} {e : Expr} {es : List Expr} {t : TA}
/-- f(e, ..) of a def that takes its values as they come -/
theorem pe_callR (F : FnR X.prog X.w X.K X.mg X.base CX k f sp) (hr : Room k X.A) (hg : Gl X x) (hm : X.mg x = some (.ref f)) (hk : PySem.W.keepIn X.K (.ref f) = true) (hx : Passes CX X E)
    (ha : PA X (e :: es) t) (hdb : (x == ("__debug__" : Str)) = false := by decide)
    (he : starEach (e :: es) X.env = (false, eval e X.env) :: starEach es X.env := by rfl) (hpl : (backTo pos (starEach es X.env)).any (·.1) = false := by rfl) :
    PE X (.Call (.Name x p) (e :: es) [] pos) (fun σ H Q => t σ H fun vs H1 => sp vs H1 Q E) := by
  refine ⟨fun pins s σ H Q I h => ?_⟩
  refine wpAny_Call_Name_kw (ld_glob I hg hm ?_ hdb)
  refine PySem.W.callWith_K (h₀ := X.base) I.ok.mod.kin hk
    (thn (ha.run pos pins s σ H _ I h) fun us s1 ⟨vs, H1, I1, r, q⟩ => ⟨I1.kIn, ?_⟩) he hpl
  exact wpAny_call (run_fnR F hr hx I1 r q)
theorem pe_callR0 (F : FnR X.prog X.w X.K X.mg X.base CX k f sp) (hr : Room k X.A) (hg : Gl X x) (hm : X.mg x = some (.ref f)) (hk : PySem.W.keepIn X.K (.ref f) = true) (hx : Passes CX X E)
    (hdb : (x == ("__debug__" : Str)) = false := by decide) : PE X (.Call (.Name x p) [] [] pos) (fun σ H Q => sp [] H Q E) := by
  refine ⟨fun pins s σ H Q I h => ?_⟩
  refine wpAny_Call_Name_kw (ld_glob I hg hm ?_ hdb)
  exact PySem.W.callWith_K0 I.kIn hk (wpAny_call (run_fnR (us := []) F hr hx I .nil h))
/-- sum of a tuple of whole numbers -/
theorem cr_sumT (hc : X.calm = true) : CallR X (.builtin "sum") (fun vs H Q => ∃ (a : Addr) (ns : List Int), vs = [V.ref a] ∧ SqT X.K H a (ns.map V.int) ∧ Q (.int ns.sum) H) := by
  intro pins s σ H vs us Q I r h
  obtain ⟨a, ns, rfl, hs, q⟩ := h
  obtain ⟨its, rv, hl, _⟩ := I.tuple hs
  rw [Vals.ref1 r]
  have hi := rv.ints
  obtain ⟨xs, hx⟩ := hi.allInts.items
  have hn : numsOf (intItems xs).toList = ns := by rw [← hx]; exact hi.numsOf
  rw [nums_intItems] at hn
  rw [hx] at hl
  refine PySem.W.ktm_sumG (I.ok.hd hc) hl fun h' tk t' hk => ?_
  rw [preSum_eq, List.take_of_length_le (by simp), hn]
  exact ⟨.int _, H, I.kept hk, ⟨_, rfl⟩, q⟩
end
/-- the way out by BadNumber, from a heap in which all stands as it stood -/
def BadS (C : Addr) (E : XK) (H : Hp) (v : Int) : Prop := ∀ (H' : Hp) (d : Addr), Same H H' → H' d = none → E (.ref C) (some d) (upd H' d (.xd [("value", .int v)]))
/-- the first length that a join refuses -/
def lst (ls : List Int) : Int := if 1 < ls.length then 2 else 0
def refused (ls : List Int) : Option Int := ls.find? fun x => decide (x < lst ls)
def joinLen (ls : List Int) : Int := if ls = [] then 0 else ls.sum - ((ls.length : Int) - 1) * 1
def Small (ls : List Int) : Prop := ls.length ≤ 10 ∧ ∀ x ∈ ls, x.natAbs < 2 ^ 1000
def spJoin (C : Addr) (ls : List Int) (H : Hp) (Q : VK) (E : XK) : Prop := Small ls ∧ (∀ v, refused ls = some v → BadS C E H v) ∧ (refused ls = none → ∀ H', Same H H' → Q (.int (joinLen ls)) H')
def spJoined (C : Addr) : Sp := fun vs H Q E => ∃ ls : List Int, vs = ls.map V.int ∧ spJoin C ls H Q E
/-- the def itself: its parameter is the tuple at p -/
def spJoinT (C : Addr) : Sp := fun vs H Q E => ∃ (p : Addr) (ls : List Int), vs = [.ref p] ∧ H p = some (.tup (ls.map V.int)) ∧ Small ls ∧
  (∀ v, refused ls = some v → Bad C E H v) ∧ (refused ls = none → Q (.int (joinLen ls)) H)
abbrev sJoin : Stmt := top 15
structure OverTxt (K : PySem.W.Frag) (mg : Str → Option Value) (D : Addr) (mc : Value) (u : Value) : Prop where
  g : mg "Ladder" = some (.ref D)
  cr : ClX.CRead K D mc
  cv : ClX.CVal K D mc "OVERLAP" (.int 1) u
  len : mg "len" = none
  sum : mg "sum" = none
section
variable {P : Program} {w : World} {K : PySem.W.Frag} {mg : Str → Option Value} {base : Heap} {C D : Addr} {mc u : Value}
theorem scJoin : FnScope ["lengths", "least", "length"] ["lengths"] (defScope sJoin) := ⟨rfl, rfl, rfl, by decide +kernel, rfl, by decide +kernel, by decide +kernel⟩
theorem find_take {p : Int → Bool} {ls : List Int} {i : Nat} {x : Int} (h : ls[i]? = some x) (hn : (ls.take i).find? p = none) :
    (p x = true → ls.find? p = some x) ∧ (p x = false → (ls.take (i + 1)).find? p = none) := by
  have e : ls = ls.take i ++ x :: ls.drop (i + 1) := by
    obtain ⟨hi, hx⟩ := List.getElem?_eq_some_iff.mp h
    rw [← hx, List.getElem_cons_drop, List.take_append_drop]
  refine ⟨fun hp => ?_, fun hp => ?_⟩
  · rw [e, List.find?_append, hn]
    simp [hp]
  · rw [List.take_succ, h, Option.toList_some, List.find?_append, hn]
    simp [hp]
theorem ok_join {f : Addr} {fd : FuncData} (F : Fun K "joined_length" "joined_length" sJoin f fd) (R : ErrOk P w K mg base "BadNumber" C "value" okInt) (T : OverTxt K mg D mc u)
    (hb : ∀ rest : List Value, bindArgs fd ⟨rest, []⟩ = (newTuple rest >>= fun t => pure [(("lengths" : Str), t)])) : FnR P w K mg base (L2.CX P w) 4 f (spJoined C) := by
  obtain ⟨oc, od, kV, doc, pm, an, cdv, ct, osl, rfl, lk, hcd⟩ := F.ex
  refine (StX.fn_star (ps := []) (pv := "lengths") (sp := spJoinT C) (k := 3) lk hcd scJoin StX.cxUp (fun us rest hl => ?_) fun A outer s H vs Q E hr h => ?_).imp ?_
  · have e : us = [] := List.length_eq_zero_iff.mp hl
    subst e
    exact hb rest
  · obtain ⟨p, ls, rfl, hp, ⟨h10, hsz⟩, h1, h2⟩ := h
    refine ⟨_, (pss_cons (ps_if (pt_not (pt_truth (pv 0) (by intro _; rfl))) (pss_one (ps_ret pe_int)) pss_nil)
      (C8.pss_cut (ps_set (i := 1) scJoin.nd rfl (Or.inl rfl) (pe_ifExp (pt_cmpR op_gt (pe_callB call_len_seq (by rfl) T.len PySem.boot_len (pa_cons (pv 0) pa_nil)) pe_int (nomark _)) (pe_op op_add (ClX.pe_cval (pe_glob (v := .ref D) rfl T.g rfl)) pe_int) pe_int))
      (pss_cons (ps_for (passes_of rfl) rfl (pi_tup (pv 0)) (pg_name (i := 2) scJoin.nd rfl (Or.inl rfl)) (pss_one (ps_if (pt_cmpR op_lt (pv 2) (pv 1) (nomark _)) (pss_one (ps_err R rfl (takes_of rfl rfl rfl rfl) hr (pa_cons (pv 2) pa_nil) rfl)) pss_nil)))
      (pss_one (ps_ret (pe_op op_sub (pe_callB (cr_sumT rfl) (by rfl) T.sum (by decide +kernel) (pa_cons (pv 0) pa_nil)) (pe_op op_mul (pe_op op_sub (pe_callB call_len_seq (by rfl) T.len PySem.boot_len (pa_cons (pv 0) pa_nil)) pe_int) (ClX.pe_cval (pe_glob (v := .ref D) rfl T.g rfl))))))))), ?_⟩
    refine ⟨_, rfl, (!(ls.map V.int).isEmpty), .inr (.inl ⟨_, SqT.of hp, rfl⟩), ?_⟩
    by_cases he : ls = []
    · subst he
      exact if_t rfl (h2 rfl)
    · have hne : (ls.map V.int).isEmpty = false := by
        cases ls with
        | nil => exact absurd rfl he
        | cons a r => rfl
      refine if_f (by rw [hne]; rfl) ?_
      have eL : (((ls.map V.int).length : Nat) : Int) = (ls.length : Int) := by rw [List.length_map]
      refine ⟨fun σ' H' => H = H' ∧ σ' = [some (V.ref p), some (V.int (lst ls)), none], ?_, ?_⟩
      · refine ⟨_, rfl, p, _, rfl, .inr (SqT.of hp), _, _, rfl, rfl, _, rfl, ?_⟩
        rw [eL]
        by_cases c1 : (1 : Int) < (ls.length : Int)
        · refine if_t (decide_eq_true c1) ⟨D, mc, .int 1, u, rfl, T.cr, T.cv, _, _, rfl, rfl, rfl, ?_⟩
          unfold lst
          rw [if_pos (by omega)]
          rfl
        · refine if_f (decide_eq_false c1) ⟨rfl, ?_⟩
          unfold lst
          rw [if_neg (by omega)]
          rfl
      rintro σ' H' ⟨rfl, rfl⟩
      refine ⟨_, rfl, p, rfl, ⟨_, SqT.of hp⟩, for_tup (K := K) (a := p) (xs := ls.map V.int) (fun i σ' H' => H = H' ∧ (∃ v2 : Option V, σ' = [some (V.ref p), some (V.int (lst ls)), v2]) ∧ (ls.take i).find? (fun y => decide (y < lst ls)) = none)
        ⟨rfl, ⟨none, rfl⟩, rfl⟩ (fun i σ' H' _ h => by rw [← h.1]; exact SqT.of hp) ?_ ?_⟩
      · rintro i y σ' H' hi ⟨rfl, ⟨v2, rfl⟩, hf⟩
        obtain ⟨z, hz, rfl⟩ : ∃ z, ls[i]? = some z ∧ y = V.int z := by
          rw [List.getElem?_map] at hi
          cases e : ls[i]? with
          | none =>
            rw [e] at hi
            cases hi
          | some z =>
            rw [e] at hi
            exact ⟨z, rfl, (Option.some.inj hi).symm⟩
        have ft := find_take hz hf
        refine ⟨_, rfl, _, rfl, _, _, rfl, rfl, _, rfl, ?_⟩
        by_cases c : z < lst ls
        · exact if_t (decide_eq_true c) ⟨_, rfl, err_way ⟨z, rfl, log_of (by decide) (Nat.lt_of_lt_of_le (hsz z (List.mem_of_getElem? hz)) (Nat.pow_le_pow_right (by decide) (by decide)))⟩ (h1 z (ft.1 (decide_eq_true c)))⟩
        · exact if_f (decide_eq_false c) ⟨rfl, ⟨_, rfl⟩, ft.2 (decide_eq_false c)⟩
      · rintro σ' H' ⟨rfl, ⟨v2, rfl⟩, hf⟩
        rw [List.length_map, List.take_length] at hf
        refine ⟨_, rfl, p, ls, rfl, SqT.of hp, _, rfl, p, _, rfl, .inr (SqT.of hp), _, _, rfl, rfl, D, mc, .int 1, u, rfl, T.cr, T.cv, _, _, rfl, rfl, .inr ⟨by decide, by decide⟩, _, _, rfl, rfl, ?_⟩
        have k := h2 hf
        unfold joinLen at k
        rw [if_neg he] at k
        rw [eL]
        exact k
  · rintro vs H Q E ⟨ls, rfl, ⟨h10, hsz⟩, h1, h2⟩
    refine ⟨[], ls.map V.int, rfl, rfl, by rw [List.length_map, sizeLine_eq]; omega, fun p hp => ⟨p, ls, rfl, upd_same, ⟨h10, hsz⟩, fun v hv d hd => ?_, fun hn => h2 hn _ fun b o e => by rw [upd_ne (ne_of_none e hp)]; exact e⟩⟩
    exact h1 v hv _ d (fun b o e => by rw [upd_ne (ne_of_none e hp)]; exact e) hd
end
end Law

namespace Law
open PySem PySem.Spec PyProof.Rows L2
theorem passS {X : Cx} {CX : CXT} {E : XK} (h : Passes CX X E) : ∀ σ, PassesAt CX X σ E := fun σ pins H s e s' I c => h pins σ H s e s' I c
end Law

/-! Ladders, made. -/
namespace Law
open PySem PySem.Spec PyProof.Rows L2 Sup
abbrev sInit : Stmt := inClass (top 16) 1
theorem upd_upd {H : Hp} {a : Addr} {o o' : HO} : upd (upd H a o) a o' = upd H a o' := by
  funext b
  by_cases hb : b = a
  · rw [hb, upd_same, upd_same]
  · rw [upd_ne hb, upd_ne hb, upd_ne hb]
/-- a ladder of the class at CL -/
def Lad (CL : Addr) (H : Hp) (x : Addr) (L p : Int) : Prop := ∃ dx fs, H x = some (.ins CL dx fs) ∧ fs.lookup ("length" : Str) = some (V.int L) ∧ fs.lookup ("parts" : Str) = some (V.int p)
theorem Lad.same {CL : Addr} {H H' : Hp} {x : Addr} {L p : Int} (h : Lad CL H x L p) (s : Same H H') : Lad CL H' x L p := by
  obtain ⟨dx, fs, h1, h2⟩ := h
  exact ⟨dx, fs, s _ _ h1, h2⟩
/-- what of the class the text tells -/
structure LadI (K : PySem.W.Frag) (mg : Str → Option Value) (CL fK fJ : Addr) : Prop where
  lad : mg "Ladder" = some (.ref CL)
  chk : mg "check_not_negative" = some (.ref fK)
  join : mg "joined_length" = some (.ref fJ)
  cl : Cls K CL
  nL : NoAttr K CL "length"
  nP : NoAttr K CL "parts"
def spInit (CE CL : Addr) : Sp := fun vs H Q E => ∃ (x : Addr) (L p : Int) (dx : Addr), vs = [.ref x, .int L, .int p] ∧ H x = some (.ins CL dx []) ∧ L.natAbs < 2 ^ 1000 ∧ (L < 0 → BadS CE E H L) ∧
  (0 ≤ L → ∀ fs, fs.lookup ("length" : Str) = some (V.int L) → fs.lookup ("parts" : Str) = some (V.int p) → Q .non (upd H x (.ins CL dx fs)))
theorem mk_lad {CE CL : Addr} {L p : Int} {H1 : Hp} {Q : VK} {E : XK} (hL : L.natAbs < 2 ^ 1000) (h1 : L < 0 → BadS CE E H1 L) (h2 : 0 ≤ L → ∀ x H2, H1 x = none → Same H1 H2 → Lad CL H2 x L p → Q (.ref x) H2) :
    Own.MkS CL (spInit CE CL) E [.int L, .int p] H1 Q := ⟨fun x dx hx hdx hne => by
  have S : Same H1 (upd (upd H1 dx (.own x)) x (.ins CL dx [])) := fun b o e => by
    rw [upd_ne (ne_of_none e hx), upd_ne (ne_of_none e hdx)]
    exact e
  refine ⟨x, L, p, dx, rfl, upd_same, hL, fun c H' d s hd => h1 c H' d (fun b o e => s _ _ (S _ _ e)) hd, fun c fs l1 l2 => ⟨rfl, ?_⟩⟩
  rw [upd_upd]
  refine h2 c x _ hx (fun b o e => ?_) ⟨dx, fs, upd_same, l1, l2⟩
  rw [upd_ne (ne_of_none e hx), upd_ne (ne_of_none e hdx)]
  exact e⟩
section
variable {P : Program} {w : World} {K : PySem.W.Frag} {mg : Str → Option Value} {base : Heap} {CE CL fK fJ : Addr}
theorem scInit : FnScope ["self", "length", "parts"] ["self", "length", "parts"] (defScope sInit) := ⟨rfl, rfl, rfl, by decide +kernel, rfl, by decide +kernel, by decide +kernel⟩
theorem ok_init {f : Addr} {fd fdK : FuncData} (F : FunD K "__init__" "Ladder.__init__" (defArgs sInit) (defBody sInit) (defScope sInit) [.int 1] [] f fd) (R : ErrOk P w K mg base "BadNumber" CE "value" okInt) (FK : Fun K "check_not_negative" "check_not_negative" sChk fK fdK) (bK : Binds K fdK ["number"] [])
    (T : LadI K mg CL fK fJ) : FnOk P w K mg base (L2.CX P w) 5 f fd ["self", "length", "parts"] (spInit CE CL) := by
  have GK : FnOk P w K mg base (L2.CX P w) 4 fK fdK ["number"] (spChk CE) := ok_chk FK R
  refine F.ok scInit (fun vs H Q E h => ?_) (fun cdv A outer s H vs Q E hr h => ?_)
  · obtain ⟨x, L, p, dx, rfl, _⟩ := h
    rfl
  · obtain ⟨x, L, p, dx, rfl, hx, hL, h1, h2⟩ := h
    refine ⟨_, (pss_cons (ps_expr (pe_call (E := E) GK hr rfl T.chk FK.kp bK .nil (passes_call (takes_of rfl rfl rfl rfl) fun _ _ _ _ z => z) (pa_cons (pv 1) pa_nil)))
      (pss_cons (ps_fld (pv 0) (pv 1) rfl)
      (pss_one (ps_fld (pv 0) (pv 2) rfl)))), ?_⟩
    refine ⟨_, rfl, L, rfl, hL, fun c d hd => h1 c H d (fun _ _ e => e) hd, fun c => ?_⟩
    refine ⟨_, rfl, _, rfl, x, CL, dx, _, rfl, hx, T.cl, T.nL, by show 0 < 1000; decide, ?_⟩
    refine ⟨_, rfl, _, rfl, x, CL, dx, _, rfl, upd_same, T.cl, T.nP, by show 1 < 1000; decide, ?_⟩
    rw [upd_upd]
    exact h2 c _ rfl rfl
end
end Law

/-! What the law's own defs of several laws want: comprehensions told by a function, draws, texts as data. -/
namespace Law
open PySem PySem.Spec PyProof.Rows L2
def SameB (b : Addr) (H H' : Hp) : Prop := ∀ c o, c ≠ b → H c = some o → H' c = some o
theorem SameB.of {b : Addr} {H H' : Hp} (k : ∀ c, c ≠ b → H' c = H c) : SameB b H H' := fun c o n e => (k c n).trans e
theorem SameB.trans {b : Addr} {H H1 H2 : Hp} (s : SameB b H H1) (t : SameB b H1 H2) : SameB b H H2 := fun c o n e => t c o n (s c o n e)
theorem SameB.of_same {b : Addr} {H H' : Hp} (s : Same H H') : SameB b H H' := fun c o _ e => s c o e
theorem same_tr {H H1 H2 : Hp} (s : Same H H1) (t : Same H1 H2) : Same H H2 := fun c o e => t c o (s c o e)
theorem same_rfl {H : Hp} : Same H H := fun _ _ e => e
theorem Room.u65 {k : Nat} {A : Around} (r : Room k A) : A.units + 65 < cLine := by have := r.un; omega
theorem Box.free {H : Hp} {b l d : Addr} (B : Box H b l) (h : H d = none) : b ≠ d ∧ l ≠ d := by
  obtain ⟨ns, i, q, s, h1, h2, _⟩ := B
  exact ⟨ne_of_none h1 h, ne_of_none h2 h⟩
theorem Box.at {H : Hp} {b l d : Addr} {o : HO} (B : Box H b l) (n : b ≠ d ∧ l ≠ d) : Box (upd H d o) b l := B.keep fun c hc => by
  rcases hc with rfl | rfl
  · exact upd_ne n.1
  · exact upd_ne n.2
theorem Box.same {H H' : Hp} {b l : Addr} (B : Box H b l) (s : Same H H') : Box H' b l := by
  obtain ⟨ns, i, q, s', h1, h2, h3⟩ := B
  exact ⟨ns, i, q, s', s _ _ h1, s _ _ h2, h3⟩
theorem Box.neT {H : Hp} {b l c : Addr} {xs : List V} (B : Box H b l) (h : H c = some (.tup xs)) : c ≠ b := fun z => by
  obtain ⟨_, _, _, _, q, _⟩ := B
  rw [z, q] at h
  cases h
theorem Box.neD {H : Hp} {b l c : Addr} {kv : List (Key × V)} (B : Box H b l) (h : H c = some (.dK kv)) : c ≠ b ∧ c ≠ l := by
  obtain ⟨_, _, _, _, q, q2, _⟩ := B
  exact ⟨fun z => (by rw [z, q] at h; cases h), fun z => (by rw [z, q2] at h; cases h)⟩
theorem Box.neI {H : Hp} {b l c C dx : Addr} {fs : List (Str × V)} (B : Box H b l) (h : H c = some (.ins C dx fs)) : c ≠ b ∧ c ≠ l := by
  obtain ⟨_, _, _, _, q, q2, _⟩ := B
  exact ⟨fun z => (by rw [z, q] at h; cases h), fun z => (by rw [z, q2] at h; cases h)⟩
theorem same_new {H : Hp} {p : Addr} {o : HO} (h : H p = none) : Same H (upd H p o) := fun b o' e => by
  rw [upd_ne (ne_of_none e h)]
  exact e
theorem none_back {H H' : Hp} {x : Addr} (s : Same H H') (h : H' x = none) : H x = none := by
  cases e : H x with
  | none => rfl
  | some o =>
    have z := s _ _ e
    rw [h] at z
    cases z
/-- within a comprehension whose turn i adds out i (or nothing), all else new -/
def LcP (D : Addr) (H1 : Hp) (out : Nat → Option V) (i : Nat) (H : Hp) : Prop := H D = some (.lst ((List.range i).filterMap out)) ∧ Same H1 H
section
variable {D : Addr} {H1 H H4 : Hp} {out : Nat → Option V} {i : Nat} {y : V}
theorem LcP.start (hD : H1 D = none) : LcP D H1 out 0 (upd H1 D (.lst [])) := ⟨upd_same, same_new hD⟩
theorem fm_len (i : Nat) : ((List.range i).filterMap out).length ≤ i := by
  have := List.length_filterMap_le out (List.range i)
  rw [List.length_range] at this
  exact this
theorem fm_succ : (List.range (i + 1)).filterMap out = (List.range i).filterMap out ++ (out i).toList := by
  rw [List.range_succ, List.filterMap_append]
  cases e : out i <;> simp [e]
theorem LcP.push (h : LcP D H1 out i H) (hD : H1 D = none) (s : Same H H4) (ho : out i = some y) (hi : i < 1000) :
    ∃ acc, H4 D = some (.lst acc) ∧ acc.length < sizeLine ∧ LcP D H1 out (i + 1) (upd H4 D (.lst (acc ++ [y]))) := by
  refine ⟨_, s _ _ h.1, small1000 (Nat.le_of_lt (Nat.lt_of_le_of_lt (fm_len i) hi)), ?_, fun b o e => ?_⟩
  · rw [upd_same, fm_succ, ho]
    rfl
  · rw [upd_ne (ne_of_none e hD)]
    exact s _ _ (h.2 _ _ e)
theorem LcP.skip (h : LcP D H1 out i H) (s : Same H H4) (ho : out i = none) : LcP D H1 out (i + 1) H4 := by
  refine ⟨?_, same_tr h.2 s⟩
  rw [fm_succ, ho, s _ _ h.1]
  simp
end
theorem range_fm {α β : Type} (f : α → Option β) (xs : List α) : (List.range xs.length).filterMap (fun i => xs[i]?.bind f) = xs.filterMap f := by
  induction xs with
  | nil => rfl
  | cons x xs ih =>
    rw [List.length_cons, List.range_succ_eq_map, List.filterMap_cons, List.filterMap_map, List.filterMap_cons]
    have e : (fun i => (x :: xs)[i]?.bind f) ∘ Nat.succ = fun i => xs[i]?.bind f := by
      funext i
      simp
    rw [e, ih]
    simp
theorem range_id {α : Type} (xs : List α) : (List.range xs.length).filterMap (fun i : Nat => xs[i]?) = xs := by
  have e := range_fm (some : α → Option α) xs
  have e1 : (fun i : Nat => xs[i]?.bind some) = fun i : Nat => xs[i]? := by
    funext i
    cases xs[i]? <;> rfl
  rw [e1] at e
  rw [e]
  simp
theorem fm_any {α β : Type} (p : α → Bool) (f : α → β) (xs : List α) : decide ((0 : Int) < (((xs.filterMap fun c => if p c = true then none else some (f c)).length : Nat) : Int)) = xs.any fun c => !p c := by
  induction xs with
  | nil => rfl
  | cons x xs ih =>
    rw [List.filterMap_cons, List.any_cons, ← ih]
    cases h : p x with
    | true => simp
    | false =>
      simp
theorem at_nat {xs : List V} {j : Nat} {v : V} (h : xs[j]? = some v) : atI xs (j : Int) = some v := atI_nat h
/-! texts as data -/
theorem ok_str {y : Str} (h : ∀ c ∈ y.cps.toList, c < 1114112) : PyData.canLay0 (.str y) = true := by
  have e : PyData.canLay0 (.str y) = PyData.strOk y := by simp only [PyData.canLay0]
  rw [e]
  unfold PyData.strOk
  rw [← Array.all_toList, List.all_eq_true]
  intro c hc
  exact decide_eq_true (h c hc)
theorem ok_strs : ∀ {ys : List Str}, (∀ y ∈ ys, ∀ c ∈ y.cps.toList, c < 1114112) → PyData.canLayAll0 (ys.map PyData.str) = true
  | [], _ => by simp only [List.map_nil, PyData.canLayAll0]
  | y :: ys, h => by
    rw [List.map_cons]
    simp only [PyData.canLayAll0]
    rw [Bool.and_eq_true]
    exact ⟨ok_str (h y List.mem_cons_self), ok_strs fun x hx => h x (List.mem_cons_of_mem _ hx)⟩
theorem deep_strs : ∀ ys : List Str, PyData.depthAll (ys.map PyData.str) = 0
  | [] => by simp [PyData.depthAll]
  | y :: ys => by
    rw [List.map_cons]
    simp [PyData.depthAll, PyData.depth, deep_strs ys]
theorem shaped_str {y : Str} (h : ∀ c ∈ y.cps.toList, c < 1114112) : SeqAt.shaped (.str y) = true := by
  unfold SeqAt.shaped
  rw [ok_str h]
  simp [PyData.depth]
theorem shaped_strs {ys : List Str} (h : ∀ y ∈ ys, ∀ c ∈ y.cps.toList, c < 1114112) : SeqAt.shaped (.list (ys.map PyData.str)) = true := by
  unfold SeqAt.shaped
  have e : PyData.canLay0 (.list (ys.map PyData.str)) = true := by
    simp only [PyData.canLay0]
    exact ok_strs h
  rw [e]
  simp [PyData.depth, deep_strs]
theorem dp_strs {K : PySem.W.Frag} {H : Hp} : ∀ ys : List Str, DpAll K H (ys.map V.str) (ys.map PyData.str)
  | [] => .nil
  | _ :: ys => .cons (.str _) (dp_strs ys)
theorem any_strs (ys : List Str) (y : Str) : ((ys.map PyData.str).any fun z => PyData.eqv z (.str y)) = ys.contains y := by
  induction ys with
  | nil => rfl
  | cons x ys ih =>
    rw [List.map_cons, List.any_cons, ih, List.contains_cons]
    have e : PyData.eqv (.str x) (.str y) = (y == x) := by
      simp only [PyData.eqv]
      by_cases h : x = y
      · subst h
        rfl
      · have h1 : (x == y) = false := by simpa using h
        have h2 : (y == x) = false := by simpa using fun z => h z.symm
        rw [h1, h2]
    rw [e]
/-- two shaped data that are told the same are equal -/
theorem eqv_rfl {d : PyData} (h : SeqAt.shaped d = true) : PyData.eqv d d = true := SeqAt.eqv_refl _ (SeqAt.canLay_of_shaped h)
theorem shaped_pair {a b : PyData} (ha : PyData.canLay0 a = true) (hb : PyData.canLay0 b = true) (da : PyData.depth a = 0) (db : PyData.depth b = 0) : SeqAt.shaped (.tuple [a, b]) = true := by
  unfold SeqAt.shaped
  have e : PyData.canLay0 (.tuple [a, b]) = true := by
    simp only [PyData.canLay0, PyData.canLayAll0, ha, hb]
    rfl
  rw [e]
  simp [PyData.depth, PyData.depthAll, da, db]
/-! texts joined without a separator, and cut -/
theorem joinL_mem : ∀ {ls : List (List Nat)} {c : Nat}, c ∈ TL.joinL [] ls → ∃ x ∈ ls, c ∈ x
  | [], c, h => by cases h
  | [p], c, h => ⟨p, List.mem_cons_self, h⟩
  | p :: q :: r, c, h => by
    rcases List.mem_append.mp h with h | h
    · exact ⟨p, List.mem_cons_self, h⟩
    · obtain ⟨x, hx, hc⟩ := joinL_mem (ls := q :: r) h
      exact ⟨x, List.mem_cons_of_mem _ hx, hc⟩
theorem joinL_len : ∀ (ls : List (List Nat)), (TL.joinL [] ls).length = (ls.map List.length).sum
  | [] => rfl
  | [p] => by simp [TL.joinL]
  | p :: q :: r => by
    show (p ++ ([] ++ TL.joinL [] (q :: r))).length = _
    rw [List.nil_append, List.length_append, joinL_len (q :: r)]
    rfl
theorem join_cps (ys : List Str) : (Txt.join "" ys).cps.toList = TL.joinL [] (ys.map fun y => y.cps.toList) := by
  have e := TL.tl_join ("" : Str) ys
  have e2 : Txt.join "" ys = Str.join "" ys := TL.join_eq _ _
  rw [e2]
  exact e
theorem cut_mem {z : Str} {lo hi : Option Int} {c : Nat} (h : c ∈ (cutS z lo hi).cps.toList) : c ∈ z.cps.toList := by
  unfold cutS at h
  exact List.mem_of_mem_drop (List.mem_of_mem_take (by simpa using h))
theorem cut_len {z : Str} {lo hi : Option Int} : (cutS z lo hi).length ≤ z.length := by
  show (((z.cps.toList.drop _).take _).toArray).size ≤ z.cps.size
  simp
  omega
theorem cps_app (a b : Str) : (a ++ b).cps.toList = a.cps.toList ++ b.cps.toList := TL.tl_append a b
end Law

namespace Own
open PySem PySem.Spec PyProof.Rows L2
/-- o.m() that may raise, at the slots σ -/
theorem pe_methW0 {X : Cx} {CX : CXT} {k : Nat} {C f : Addr} {sp : Sp} {E : L2.St → XK} {m : Str} {o : Expr} {ta : TE} {pos apos : Pos} {pl : Sem Bool} (ho : PE X o ta) (c : Cls X.K C) (hm : Meth X.K C m f) (F : FnR X.prog X.w X.K X.mg X.base CX k f sp) (hr : Room k X.A) (hx : ∀ σ, PassesAt CX X σ (E σ))
    (ht : eval (.Call (.Attribute o m apos) [] [] pos) X.env = (do
      let ov ← eval o X.env
      standAt apos.atName
      let (g, first) ← holding [ov] (getMethod ov m pl)
      callWith pos g first (backTo pos (starEach [] X.env)) (backToKw pos (keywordEach [] X.env))) := by rfl) :
    PE X (.Call (.Attribute o m apos) [] [] pos) (tMethS C m sp E ta tNil) := by
  refine ⟨fun pins s σ H Q I h => ?_⟩
  refine PySem.W.methodCall_KW (pl := pl) (thn (ho.run pins s σ H _ I h) fun u s1 ⟨x, H1, I1, rx, a, dx, fs, ex, ea, l, q⟩ => ?_) ht
  subst ex
  cases (show u = Value.ref a from rx)
  refine getmeth_ok I1 ea c hm l (PySem.W.callWith_K0 (first := [.ref a]) I1.kIn hm.kp ?_)
  exact wpAny_call (run_fnRS (us := [.ref a]) (vs := [.ref a]) F hr (hx σ) I1 (.cons rfl .nil) q)
end Own

namespace Law
open PySem PySem.Spec PyProof.Rows L2 Sup
abbrev sJnd : Stmt := inClass (top 17) 4
/-- the first of the names that occurs again -/
def again : List Str → List Str → Option Str
  | _, [] => none
  | seen, y :: r => if seen.contains y = true then some y else again (seen ++ [y]) r
/-- the lengths of the named ladders -/
def lensOf (rows : List Row) (ys : List Str) : List Int := ys.filterMap fun y => rows.lookup y
def strange (rows : List Row) (ys : List Str) : Option Str := ys.find? fun y => !known rows y
structure JOut (C : Errs) (CL : Addr) (rows : List Row) (ys : List Str) (H : Hp) (Q : VK) (E : XK) : Prop where
  unk : ∀ y, strange rows ys = some y → BadX C.U "name" E H (.str y)
  tak : ∀ y, strange rows ys = none → again [] ys = some y → BadX C.T "name" E H (.str y)
  emp : ys = [] → BadX C.B "value" E H (.int 0)
  sho : ∀ v, strange rows ys = none → again [] ys = none → ys ≠ [] → refused (lensOf rows ys) = some v → BadX C.B "value" E H (.int v)
  got : strange rows ys = none → again [] ys = none → ys ≠ [] → refused (lensOf rows ys) = none → ∀ x H', H x = none → Same H H' → Lad CL H' x (joinLen (lensOf rows ys)) ys.length → Q (.ref x) H'
/-- what a join of the rack asks -/
structure JIn (CR : Addr) (rows : List Row) (ys : List Str) (H : Hp) (r d : Addr) : Prop where
  R : Rck CR H r d rows
  few : ys.length ≤ 10
  fit : ∀ y ∈ ys, Fit y
  small : ∀ p ∈ rows, p.2.natAbs < 2 ^ 900
def spJndT (C : Errs) (CR CL : Addr) : Sp := fun vs H Q E => ∃ (r d t : Addr) (rows : List Row) (ys : List Str), vs = [.ref r, .ref t] ∧ H t = some (.tup (ys.map V.str)) ∧ JIn CR rows ys H r d ∧ JOut C CL rows ys H Q E
def spJnd (C : Errs) (CR CL : Addr) : Sp := fun vs H Q E => ∃ (r d : Addr) (rows : List Row) (ys : List Str), vs = .ref r :: ys.map V.str ∧ JIn CR rows ys H r d ∧ JOut C CL rows ys H Q E
theorem joinLen_pos {ls : List Int} (h : refused ls = none) : 0 ≤ joinLen ls := by
  unfold joinLen
  split
  · exact Int.le_refl _
  · have hl : ∀ x ∈ ls, lst ls ≤ x := fun x hx => by
      have z := List.find?_eq_none.mp h x hx
      simpa using z
    have sum_ge : ∀ (m : Int) (xs : List Int), (∀ x ∈ xs, m ≤ x) → (xs.length : Int) * m ≤ xs.sum := fun m xs => by
      induction xs with
      | nil => simp
      | cons x xs ih =>
        intro hx
        have h1 := hx x List.mem_cons_self
        have h2 := ih fun y hy => hx y (List.mem_cons_of_mem _ hy)
        rw [List.sum_cons, List.length_cons]
        have e : ((xs.length + 1 : Nat) : Int) * m = (xs.length : Int) * m + m := by
          rw [Int.natCast_add, Int.add_mul]
          simp
        rw [e]
        omega
    have z := sum_ge _ ls hl
    have hn : 1 ≤ ls.length := by
      cases ls with
      | nil => contradiction
      | cons x xs => simp
    unfold lst at z
    split at z
    · omega
    · have e : ls.length = 1 := by omega
      rw [e] at z ⊢
      omega
theorem sum_small : ∀ {ls : List Int}, (∀ x ∈ ls, x.natAbs < 2 ^ 900) → ls.sum.natAbs ≤ ls.length * 2 ^ 900
  | [], _ => by simp
  | x :: xs, h => by
    have h1 := h x List.mem_cons_self
    have h2 := sum_small fun y hy => h y (List.mem_cons_of_mem _ hy)
    rw [List.sum_cons, List.length_cons, Nat.add_mul]
    generalize (2 : Nat) ^ 900 = m at h1 h2 ⊢
    generalize xs.length * m = a at h2 ⊢
    omega
theorem joinLen_small {ls : List Int} (h : ∀ x ∈ ls, x.natAbs < 2 ^ 900) (h10 : ls.length ≤ 10) : (joinLen ls).natAbs < 2 ^ 1000 := by
  unfold joinLen
  split
  · decide +kernel
  · have z := sum_small h
    have e : 10 * 2 ^ 900 + 20 < 2 ^ 1000 := by decide +kernel
    have e2 : ls.length * 2 ^ 900 ≤ 10 * 2 ^ 900 := Nat.mul_le_mul_right _ h10
    generalize (2 : Nat) ^ 1000 = M at e ⊢
    generalize (2 : Nat) ^ 900 = m at e e2 z
    generalize ls.length * m = a at e2 z
    omega
theorem lens_mem {rows : List Row} {ys : List Str} (hs : ∀ p ∈ rows, p.2.natAbs < 2 ^ 900) : ∀ x ∈ lensOf rows ys, x.natAbs < 2 ^ 900 := fun x hx => by
  obtain ⟨y, _, hy⟩ := List.mem_filterMap.mp hx
  have key : ∀ (l : List Row), l.lookup y = some x → ∃ p ∈ l, p.2 = x := fun l => by
    induction l with
    | nil => intro h; cases h
    | cons p r ih =>
      obtain ⟨n, m⟩ := p
      intro h
      rw [List.lookup] at h
      split at h
      · cases h
        exact ⟨_, List.mem_cons_self, rfl⟩
      · obtain ⟨p, hp, e⟩ := ih h
        exact ⟨p, List.mem_cons_of_mem _ hp, e⟩
  obtain ⟨p, hp, rfl⟩ := key rows hy
  exact hs p hp
theorem find_split {p : Str → Bool} {ys : List Str} {i : Nat} {y : Str} (h : ys[i]? = some y) (hn : ∀ x ∈ ys.take i, p x = false) (hp : p y = true) : ys.find? p = some y := by
  have e : ys = ys.take i ++ y :: ys.drop (i + 1) := by
    obtain ⟨hi, hx⟩ := List.getElem?_eq_some_iff.mp h
    rw [← hx, List.getElem_cons_drop, List.take_append_drop]
  rw [e, List.find?_append, List.find?_eq_none.mpr fun x hx => by rw [hn x hx]; decide]
  simp [hp]
theorem take_succ_mem {ys : List Str} {i : Nat} {y : Str} (h : ys[i]? = some y) {x : Str} (hx : x ∈ ys.take (i + 1)) : x ∈ ys.take i ∨ x = y := by
  rw [List.take_succ, h, Option.toList_some] at hx
  rcases List.mem_append.mp hx with hx | hx
  · exact .inl hx
  · exact .inr (List.mem_singleton.mp hx)
def seenK (ys : List Str) : List (Key × V) := ys.map fun y => (.inr y, .bl true)
theorem val_seen (y : Str) : ∀ ys : List Str, (valV (seenK ys) (.inr y)).isSome = ys.contains y
  | [] => rfl
  | x :: r => by
    have ih := val_seen y r
    show (valV ((.inr x, V.bl true) :: seenK r) (.inr y)).isSome = _
    rw [List.contains_cons]
    by_cases e : x = y
    · subst e
      rw [valV_pos rfl]
      simp
    · rw [valV_neg (fun z => e (Sum.inr.inj z)), ih]
      have q : (y == x) = false := by simpa using fun z => e z.symm
      rw [q, Bool.false_or]
theorem put_seen {ys : List Str} {y : Str} (h : ys.contains y = false) : putK (seenK ys) (.inr y) (.bl true) = seenK (ys ++ [y]) := by
  rw [putK_new _ (by have z := val_seen y ys; rw [h] at z; cases e : valV (seenK ys) (.inr y) with | none => rfl | some v => rw [e] at z; cases z)]
  unfold seenK
  rw [List.map_append]
  rfl
section
variable {P : Program} {w : World} {K : PySem.W.Frag} {mg : Str → Option Value} {base : Heap} {C : Errs} {CR CL fN fK fJ fI fL : Addr}
theorem scJnd : FnScope ["self", "names", "name", "lengths", "seen"] ((["self"] : List Str) ++ ([("names" : Str)] : List Str)) (defScope sJnd) := ⟨rfl, rfl, rfl, by decide +kernel, rfl, by decide +kernel, by decide +kernel⟩
set_option maxHeartbeats 0 in
theorem ok_jnd {f : Addr} {fd : FuncData} (F : Fun K "joined" "Rack.joined" sJnd f fd) (RT : ErrOk P w K mg base "TakenName" C.T "name" okTxt) (RB : ErrOk P w K mg base "BadNumber" C.B "value" okInt) (GL : FnR P w K mg base (L2.CX P w) 4 fL (spLof C CR)) (ML : Meth K CR "length_of" fL)
    (GJ : FnR P w K mg base (L2.CX P w) 4 fJ (spJoined C.B)) (kJ : PySem.W.keepIn K (.ref fJ) = true) (MK : Mk K CL fI) (GI : FnR P w K mg base (L2.CX P w) 5 fI (spInit C.B CL)) (T : RackTxt K mg CR fN fK) (LT : LadI K mg CL fK fJ)
    (hb : ∀ us rest : List Value, us.length = 1 → bindArgs fd ⟨us ++ rest, []⟩ = (newTuple rest >>= fun t => pure ((["self"] : List Str).zip us ++ [(("names" : Str), t)]))) : FnR P w K mg base (L2.CX P w) 7 f (spJnd C CR CL) := by
  obtain ⟨oc, od, kVx, doc, pm, an, cdv, ct, osl, rfl, lk, hcd⟩ := F.ex
  refine (StX.fn_star (ps := ["self"]) (pv := "names") (sp := spJndT C CR CL) (k := 6) lk hcd scJnd StX.cxUp hb fun A outer s H vs Q E hr h => ?_).imp ?_
  · obtain ⟨r, d, t, rows, ys, rfl, ht, ⟨hR, h10, hF, hS⟩, ⟨o1, o2, o3, o4, o5⟩⟩ := h
    have hr3 : Room 3 _ := hr.mono (by decide)
    have hr4 : Room 4 _ := hr.mono (by decide)
    refine ⟨_, (pss_cons (CompX.ps_setLcX (i := 3) (own := [("name", 2)]) (g := gName 2) (tt := tYes) (te := fun E => Own.tMethS CR "length_of" (spLof C CR) (fun _ => E) (tVar 0) (tCons (tVar 2) tNil)) rfl rfl (takes_of rfl rfl rfl rfl) rfl rfl (sw_true rfl rfl rfl (by decide +kernel))
        { calm := rfl, nd := scJnd.nd, it := pi_tup (pv 1), ok := blkOk_by (own := [("name", 2)]) (N := ["self", "names", "name", "lengths", "seen"]) (sc := defScope sJnd) (by decide +kernel), tgt := fun _ _ _ _ _ _ => pg_name (i := 2) scJnd.nd rfl (Or.inl rfl), tst := fun _ _ _ _ _ _ => pts_nil,
          elm := fun _ _ _ _ _ _ E hp => Own.pe_methW (E := fun _ => E) (pv 0) T.cl ML GL hr4 hp (pa_cons (pv 2) pa_nil), fold := by intro _; rfl })
      (pss_cons (ps_set (i := 4) scJnd.nd rfl (Or.inl rfl) pe_dnewK)
      (pss_cons (ps_for (passes_of rfl) rfl (pi_tup (pv 1)) (pg_name (i := 2) scJnd.nd rfl (Or.inl rfl)) (pss_cons (ps_if (pt_cmp (pc_din (hu_of hr) (pv 2) (pv 4))) (pss_one (ps_err RT rfl (takes_of rfl rfl rfl rfl) hr3 (pa_cons (pv 2) pa_nil) rfl)) pss_nil)
      (pss_one (ps_dput (hu_of hr) (pv 4) (pv 2) pe_bl rfl))))
      (pss_cons (ps_if (pt_not (pt_truth (pv 1) (by intro _; rfl))) (pss_one (ps_err RB rfl (takes_of rfl rfl rfl rfl) hr3 (pa_cons pe_int pa_nil) rfl)) pss_nil)
      (pss_one (ps_ret (Own.pe_makeS (E := fun _ => E) MK GI hr rfl LT.lad (passS (passes_call (takes_of rfl rfl rfl rfl) fun _ _ _ _ z => z)) (pa_cons (StX.pe_callS1 (E := E) GJ hr4 kJ rfl LT.join (passes_call (takes_of rfl rfl rfl rfl) fun _ _ _ _ z => z) (pv 3)) (pa_cons (pe_callB call_len_seq (by rfl) T.len PySem.boot_len (pa_cons (pv 1) pa_nil)) pa_nil))))))))), ?_⟩
    obtain ⟨⟨dx, fs, w1, w2, w3⟩, w4⟩ := id hR
    -- the lengths
    refine ⟨_, rfl, t, rfl, ⟨_, SqT.of ht⟩, fun D hD => ?_⟩
    refine lc_it (walk_tup (xs := ys.map V.str)) (fun i H' => LcP D H (fun i => ys[i]?.bind fun y => (rows.lookup y).map V.int) i H' ∧ ∀ y ∈ ys.take i, known rows y = true) ⟨LcP.start hD, fun _ h => nomatch h⟩ (fun _ _ _ h => SqT.of (h.1.2 _ _ ht)) ?_ ?_
    · rintro i x H1 H2 hi ⟨p, hk⟩ ⟨rfl, hx⟩
      rw [List.length_map] at hi
      obtain ⟨y, hy⟩ : ∃ y, ys[i]? = some y := ⟨_, List.getElem?_eq_getElem hi⟩
      rw [List.getElem?_map, hy] at hx
      cases hx
      have hR1 := hR.same p.2
      obtain ⟨⟨dx1, fs1, v1, v2, v3⟩, v4⟩ := id hR1
      have fy := hF y (List.mem_of_getElem? hy)
      refine ⟨rfl, _, rfl, r, dx1, fs1, rfl, v1, v3 _ (by decide), _, rfl, r, d, rows, y, rfl, hR1, fy, fun e H' d' S hd => ?_, fun L e => ?_⟩
      · refine o1 y (find_split hy (fun x hx => by rw [hk x hx]; rfl) (by rw [known_iff, e]; rfl)) H' d' (same_tr p.2 S) hd
      · obtain ⟨acc, a1, a2, a3⟩ := p.push hD same_rfl (y := V.int L) (by rw [hy]; simp [e]) (by omega)
        refine ⟨acc, a1, a2, a3, fun x hx => ?_⟩
        rcases take_succ_mem hy hx with hx | rfl
        · exact hk x hx
        · rw [known_iff, e]
          rfl
    rintro H1 ⟨⟨g1, s1⟩, hk⟩
    rw [List.length_map] at g1 hk
    rw [List.take_length] at hk
    rw [range_fm] at g1
    have hst : strange rows ys = none := List.find?_eq_none.mpr fun y hy => by rw [hk y hy]; decide
    have el : ys.filterMap (fun y => (rows.lookup y).map V.int) = (lensOf rows ys).map V.int := by
      unfold lensOf
      rw [List.map_filterMap]
    rw [el] at g1
    -- no name twice
    refine fun ds hds => ?_
    have nDs : D ≠ ds := ne_of_none g1 hds
    have ht1 := s1 _ _ ht
    have s2 := same_tr s1 (same_new (o := .dK []) hds)
    refine ⟨_, rfl, t, rfl, ⟨_, SqT.of (s2 _ _ ht)⟩, for_it (walk_tup (xs := ys.map V.str)) (fun i σ' H' => ∃ v2 : Option V, σ' = [some (.ref r), some (.ref t), v2, some (.ref D), some (.ref ds)] ∧ H' ds = some (.dK (seenK (ys.take i))) ∧ Same H H' ∧ H' D = some (.lst ((lensOf rows ys).map V.int)) ∧ again [] ys = again (ys.take i) (ys.drop i))
      ⟨_, rfl, upd_same, s2, by rw [upd_ne nDs]; exact g1, rfl⟩ (fun i σ' H' _ h => ?_) ?_ ?_⟩
    · obtain ⟨_, _, _, S, _⟩ := h
      exact SqT.of (S _ _ ht)
    · rintro i x σ' H2 H3 hi ⟨v2, rfl, k1, k2, k3, k4⟩ ⟨rfl, hx⟩
      rw [List.length_map] at hi
      obtain ⟨y, hy⟩ : ∃ y, ys[i]? = some y := ⟨_, List.getElem?_eq_getElem hi⟩
      rw [List.getElem?_map, hy] at hx
      cases hx
      have ed : ys.drop i = y :: ys.drop (i + 1) := by
        rw [List.drop_eq_getElem_cons hi]
        rw [List.getElem?_eq_getElem hi] at hy
        rw [Option.some.inj hy]
      have et : ys.take (i + 1) = ys.take i ++ [y] := by
        rw [List.take_succ, hy]
        rfl
      have lk2 : (seenK (ys.take i)).length ≤ 10 := by
        unfold seenK
        rw [List.length_map, List.length_take]
        omega
      refine ⟨_, rfl, _, rfl, ds, _, rfl, DGet.k (k := .inr y) k1, _, rfl, ?_⟩
      rw [val_seen]
      rw [ed] at k4
      by_cases c : (ys.take i).contains y = true
      · refine if_t c ⟨_, rfl, err_way (hF y (List.mem_of_getElem? hy)).ok fun d' hd' => o2 y hst ?_ H3 d' k2 hd'⟩
        rw [k4]
        unfold again
        rw [if_pos c]
      · have cf : (ys.take i).contains y = false := Bool.eq_false_iff.mpr c
        refine if_f cf ?_
        refine ⟨_, rfl, _, rfl, ds, _, rfl, DPut.k (k := .inr y) k1 (small1000 (by omega)), ?_⟩
        rw [put_seen cf]
        have nt : t ≠ ds := fun z => by
          have := k2 _ _ ht
          rw [z, k1] at this
          cases this
        refine ⟨_, rfl, by rw [upd_same, et], fun b o e => ?_, ?_, ?_⟩
        · have nb : b ≠ ds := ne_of_none (s1 _ _ e) hds
          rw [upd_ne nb]
          exact k2 _ _ e
        · rw [upd_ne nDs]
          exact k3
        · rw [k4, et]
          conv => lhs; unfold again
          rw [if_neg c]
    rintro σ' H2 ⟨v2, rfl, k1, k2, k3, k4⟩
    rw [List.length_map, List.take_length, List.drop_length] at k4
    have hag : again [] ys = none := k4
    -- at least one
    refine ⟨_, rfl, _, .inr (.inl ⟨_, SqT.of (k2 _ _ ht), rfl⟩), ?_⟩
    by_cases he : ys = []
    · subst he
      refine if_t rfl ?_
      exact err_way ⟨0, rfl, by decide⟩ fun d' hd' => o3 rfl H2 d' k2 hd'
    refine if_f (by cases ys with | nil => exact absurd rfl he | cons a l => rfl) ?_
    have lenL : (lensOf rows ys).length ≤ 10 := Nat.le_trans (List.length_filterMap_le _ _) h10
    have sml := lens_mem (ys := ys) hS
    refine ⟨_, rfl, D, _, rfl, .inr (SqL.of k3), lensOf rows ys, rfl, ⟨lenL, fun x hx => Nat.lt_of_lt_of_le (sml x hx) (Nat.pow_le_pow_right (by decide) (by decide))⟩, fun v hv H' d' S hd => o4 v hst hag he hv H' d' (same_tr k2 S) hd, fun hn H' S => ?_⟩
    refine ⟨_, rfl, t, _, rfl, .inr (SqT.of (S _ _ (k2 _ _ ht))), ?_⟩
    rw [List.length_map]
    refine mk_lad (joinLen_small sml lenL) (fun c => absurd (joinLen_pos hn) (by omega)) fun _ x H5 hx S5 hl => ?_
    exact o5 hst hag he hn x H5 (none_back (same_tr k2 S) hx) (same_tr (same_tr k2 S) S5) hl
  · rintro vs H Q E ⟨r, d, rows, ys, rfl, ⟨hR, h10, hF, hS⟩, ⟨o1, o2, o3, o4, o5⟩⟩
    refine ⟨[.ref r], ys.map V.str, rfl, rfl, by rw [List.length_map, sizeLine_eq]; omega, fun p hp => ?_⟩
    have S := same_new (o := .tup (ys.map V.str)) hp
    refine ⟨r, d, p, rows, ys, rfl, upd_same, ⟨hR.same S, h10, hF, hS⟩, ⟨fun y e H' d' s hd => o1 y e H' d' (same_tr S s) hd, fun y e1 e2 H' d' s hd => o2 y e1 e2 H' d' (same_tr S s) hd, fun e H' d' s hd => o3 e H' d' (same_tr S s) hd,
      fun v e1 e2 e3 e4 H' d' s hd => o4 v e1 e2 e3 e4 H' d' (same_tr S s) hd, fun e1 e2 e3 e4 x H' hx s hl => o5 e1 e2 e3 e4 x H' (none_back S hx) (same_tr S s) hl⟩⟩
end
end Law

namespace Law
open PySem PySem.Spec PyProof.Rows L2
/-- the law's own rows: a list of tuples -/
def RowsAt (H : Hp) (l : Addr) (rows : List Row) : Prop := ∃ ts : List Addr, H l = some (.lst (ts.map V.ref)) ∧ ts.length = rows.length ∧ ∀ (i : Nat) (t : Addr) (y : Str) (L : Int), ts[i]? = some t → rows[i]? = some (y, L) → H t = some (.tup [.str y, .int L])
theorem RowsAt.same {H H' : Hp} {l : Addr} {rows : List Row} (h : RowsAt H l rows) (s : Same H H') : RowsAt H' l rows := by
  obtain ⟨ts, h1, h2, h3⟩ := h
  exact ⟨ts, s _ _ h1, h2, fun i t y L e1 e2 => s _ _ (h3 i t y L e1 e2)⟩
theorem RowsAt.neB {H : Hp} {l b l0 : Addr} {rows : List Row} (h : RowsAt H l rows) (B : Box H b l0) : l ≠ b := fun z => by
  obtain ⟨ts, h1, _⟩ := h
  obtain ⟨_, _, _, _, q, _⟩ := B
  rw [z, q] at h1
  have e := HO.lst.inj (Option.some.inj h1)
  match ts, e with
  | [], e => cases e
  | [_], e => cases e
  | _ :: _ :: _, e =>
    rw [List.map_cons, List.map_cons] at e
    injection e with _ e
    injection e with e _
    cases e
theorem RowsAt.sameB {H H' : Hp} {l b l0 : Addr} {rows : List Row} (h : RowsAt H l rows) (B : Box H b l0) (s : SameB b H H') : RowsAt H' l rows := by
  have n := h.neB B
  obtain ⟨ts, h1, h2, h3⟩ := h
  exact ⟨ts, s _ _ n h1, h2, fun i t y L e1 e2 => s _ _ (B.neT (h3 i t y L e1 e2)) (h3 i t y L e1 e2)⟩
theorem RowsAt.len {H : Hp} {l : Addr} {rows : List Row} (h : RowsAt H l rows) : ∃ xs, H l = some (.lst xs) ∧ xs.length = rows.length := by
  obtain ⟨ts, h1, h2, _⟩ := h
  exact ⟨_, h1, by rw [List.length_map, h2]⟩
theorem RowsAt.at {H : Hp} {l : Addr} {rows : List Row} {i : Nat} {y : Str} {L : Int} (h : RowsAt H l rows) (e : rows[i]? = some (y, L)) : ∃ xs t, H l = some (.lst xs) ∧ xs[i]? = some (.ref t) ∧ H t = some (.tup [.str y, .int L]) := by
  obtain ⟨ts, h1, h2, h3⟩ := h
  have hi : i < rows.length := (List.getElem?_eq_some_iff.mp e).1
  have hi' : i < ts.length := by omega
  exact ⟨_, ts[i], h1, by rw [List.getElem?_map, List.getElem?_eq_getElem hi']; rfl, h3 i _ y L (List.getElem?_eq_getElem hi') e⟩
end Law

/-! the law's rows: a list of tuples (a text, an int), and the texts of them -/
namespace Law
open PySem PySem.Spec PyProof.Rows L2
theorem r_names {K : PySem.W.Frag} {i j : Nat} {σ : L2.St} {H : Hp} {Q : VK} {rl : Addr} {rows : List Row} (hi : σ[i]? = some (some (.ref rl))) (hij : i ≠ j) (hj : j < σ.length) (R : RowsAt H rl rows) (h60 : rows.length ≤ 900)
    (k : ∀ D H', H D = none → H' D = some (.lst ((rows.map (·.1)).map V.str)) → Same H H' → Q (.ref D) H') : tLc (iList K (tVar i)) (gName j) tYes (tOp (rIxT K) (tVar j) (tC (.int 0))) [j] σ H Q := by
  obtain ⟨ts, hl, hts, hrow⟩ := R
  refine ⟨_, hi, rl, rfl, ⟨_, SqL.of hl⟩, fun D hD => ?_⟩
  refine lc_it walk_list (LcP D H fun i => ((rows.map (·.1)).map V.str)[i]?) (LcP.start hD) (fun _ _ _ h => SqL.of (h.2 _ _ hl)) ?_ ?_
  · rintro m x H3 H4 hm p ⟨rfl, hx⟩
    rw [List.length_map] at hm
    rw [List.getElem?_map, List.getElem?_eq_getElem hm] at hx
    cases hx
    obtain ⟨⟨n, l⟩, hn⟩ : ∃ p, rows[m]? = some p := ⟨_, List.getElem?_eq_getElem (by omega)⟩
    have ht := hrow m _ n l (List.getElem?_eq_getElem hm) hn
    refine ⟨?_, _, ?_, _, _, _, _, rfl, rfl, SqT.of (p.2 _ _ ht), rfl, p.push hD same_rfl (by rw [List.getElem?_map, List.getElem?_map, hn]; rfl) (by omega)⟩
    · show List.set (List.set (List.set σ j none) j _) j none = List.set σ j none
      rw [List.set_set, List.set_set]
    · show (List.set (List.set σ j none) j _)[j]? = _
      rw [List.getElem?_set_self (by rw [List.length_set]; exact hj)]
  rintro H3 ⟨g1, g2⟩
  rw [List.length_map, hts, show rows.length = ((rows.map (·.1)).map V.str).length by simp, range_id] at g1
  exact k D H3 hD g1 g2
end Law

namespace Law
open PySem PySem.Spec PyProof.Rows L2 Sup
section
variable {C : Errs} {CR : Addr}
/-- C(..) of racks -/
theorem mk_rack {ks : List Str} {zs : List V} {E : XK} {H1 : Hp} {Q : VK} (rows : List Row) (hk : KwX.kwD ks zs = kvs rows) (hl : zs.length = ks.length) (h60 : rows.length ≤ 60) (hall : ∀ p ∈ rows, Fit p.1 ∧ p.2.natAbs < 2 ^ 1000)
    (hm : 8 < rows.length → BadX C.M "count" E H1 (.int rows.length)) (hr : rows.length ≤ 8 → ∀ acc y L, firstBad [] rows = some (acc, y, L) → Refused C E H1 acc y L)
    (hok : rows.length ≤ 8 → firstBad [] rows = none → ∀ (x d : Addr) (H' : Hp), H1 x = none → H1 d = none → x ≠ d → Same H1 H' → Rck CR H' x d rows → Q (.ref x) H') : KwX.MkW CR ks (spRini C CR) E zs H1 Q := by
  refine ⟨hl, fun x dx d0 nx ndx n1 nd0 n2 n3 => ?_⟩
  have S0 : ∀ {H'}, But x d0 (upd (upd (upd H1 dx (.own x)) x (.ins CR dx [])) d0 (.dK (KwX.kwD ks zs))) H' → Same H1 H' := fun {H'} g b o e => by
    have m1 : b ≠ x := ne_of_none e nx
    have m2 : b ≠ dx := ne_of_none e ndx
    have m3 : b ≠ d0 := ne_of_none e nd0
    exact g b o m1 m3 (by rw [upd_ne m3, upd_ne m1, upd_ne m2]; exact e)
  refine ⟨x, dx, d0, rows, rfl, by rw [upd_ne (Ne.symm n2), upd_same], by rw [upd_same, hk], h60, hall, fun c H' d' g hd => hm c H' d' (S0 g) hd, fun c => ⟨fun acc y L e => ?_, fun e d' H' hd R g => ⟨rfl, ?_⟩⟩⟩
  · obtain ⟨r1, r2, r3, r4⟩ := hr c acc y L e
    exact ⟨fun z H' d' g hd => r1 z H' d' (S0 g) hd, fun z H' d' g hd => r2 z H' d' (S0 g) hd, fun z H' d' g hd => r3 z H' d' (S0 g) hd, fun z H' d' g hd => r4 z H' d' (S0 g) hd⟩
  · have m1 : d' ≠ x := fun z => by
      subst z
      rw [upd_ne (Ne.symm n2), upd_same] at hd
      cases hd
    have m2 : d' ≠ d0 := fun z => by
      subst z
      rw [upd_same] at hd
      cases hd
    have hd1 : H1 d' = none := by
      rw [upd_ne m2, upd_ne m1] at hd
      by_cases z : d' = dx
      · subst z
        exact ndx
      · rw [upd_ne z] at hd
        exact hd
    exact hok c e x d' H' nx hd1 (Ne.symm m1) (S0 g) R
end
instance {y : Str} : Decidable (Fit y) := by unfold Fit; infer_instance
end Law

namespace Law
open PySem PySem.Spec PyProof.Rows L2 Sup
structure Wld (CR : Addr) (H : Hp) (b l r d rl : Addr) (rows : List Row) : Prop where
  B : Box H b l
  R : Rck CR H r d rows
  A : RowsAt H rl rows
  n8 : rows.length ≤ 8
  fit : ∀ p ∈ rows, Fit p.1
  nd : (rows.map (·.1)).Nodup
  nl : rl ≠ l
section
variable {CR : Addr} {H H' : Hp} {b l r d rl : Addr} {rows : List Row}
theorem Rck.sameB (h : Rck CR H r d rows) (B : Box H b l) (s : SameB b H H') : Rck CR H' r d rows := by
  obtain ⟨⟨dx, fs, h1, h2⟩, h3⟩ := h
  exact ⟨⟨dx, fs, s _ _ (B.neI h1).1 h1, h2⟩, s _ _ (B.neD h3).1 h3⟩
theorem Wld.draw (W : Wld CR H b l r d rl rows) (B' : Box H' b l) (s : SameB b H H') : Wld CR H' b l r d rl rows := ⟨B', W.R.sameB W.B s, W.A.sameB W.B s, W.n8, W.fit, W.nd, W.nl⟩
theorem Wld.same (W : Wld CR H b l r d rl rows) (s : Same H H') : Wld CR H' b l r d rl rows := ⟨W.B.same s, W.R.same s, W.A.same s, W.n8, W.fit, W.nd, W.nl⟩
/-- after a put: the rack has the ladder, the law's rows do not yet -/
structure Mid (CR : Addr) (H : Hp) (b l r d rl : Addr) (rows rows' : List Row) : Prop where
  B : Box H b l
  R : Rck CR H r d rows'
  A : RowsAt H rl rows
theorem Wld.put {y : Str} {L : Int} (W : Wld CR H b l r d rl rows) (s : Same (upd H d (.dK (kvs (rows ++ [(y, L)])))) H') : Mid CR H' b l r d rl rows (rows ++ [(y, L)]) := by
  have nb := W.B.neD W.R.2
  have hd : ∀ c o, c ≠ d → H c = some o → H' c = some o := fun c o n e => s c o (by rw [upd_ne n]; exact e)
  refine ⟨?_, W.R.put.same s, ?_⟩
  · obtain ⟨ns, i, q, s', h1, h2, h3⟩ := W.B
    exact ⟨ns, i, q, s', hd _ _ (Ne.symm nb.1) h1, hd _ _ (Ne.symm nb.2) h2, h3⟩
  · obtain ⟨ts, h1, h2, h3⟩ := W.A
    have ne : ∀ {c : Addr} {xs : List V}, H c = some (.lst xs) ∨ H c = some (.tup xs) → c ≠ d := fun {c xs} h z => by
      have hd := W.R.2
      rw [z, hd] at h
      rcases h with h | h <;> cases h
    exact ⟨ts, hd _ _ (ne (.inl h1)) h1, h2, fun i t y' L' e1 e2 => hd _ _ (ne (.inr (h3 i t y' L' e1 e2))) (h3 i t y' L' e1 e2)⟩
theorem known_mem {y : Str} (h : known rows y = false) : y ∉ rows.map (·.1) := fun z => by
  have e : known rows y = true := List.contains_iff_mem.mpr z
  rw [e] at h
  cases h
theorem Mid.push {y : Str} {L : Int} {t : Addr} {xs : List V} (M : Mid CR H b l r d rl rows (rows ++ [(y, L)])) (fit : ∀ p ∈ rows, Fit p.1) (nd : (rows.map (·.1)).Nodup) (nl : rl ≠ l) (hdue : due rows y L = .put) (fy : Fit y)
    (ht : H t = none) (hl : H rl = some (.lst xs)) : Wld CR (upd (upd H t (.tup [.str y, .int L])) rl (.lst (xs ++ [.ref t]))) b l r d rl (rows ++ [(y, L)]) := by
  have hk : badN y = false ∧ known rows y = false ∧ ¬ L < 0 ∧ rows.length < 8 := by
    unfold due at hdue
    split at hdue
    · cases hdue
    split at hdue
    · cases hdue
    split at hdue
    · cases hdue
    split at hdue
    · cases hdue
    rename_i h1 h2 h3 h4
    exact ⟨by simpa using h1, by simpa using h2, h3, by omega⟩
  have nt : rl ≠ t := ne_of_none hl ht
  have nb := M.A.neB M.B
  have fr := M.B.free ht
  refine ⟨?_, ?_, ?_, by rw [List.length_append]; simp; omega, fun p hp => ?_, ?_, nl⟩
  · refine (M.B.at fr).keep fun c hc => upd_ne ?_
    rcases hc with rfl | rfl
    · exact Ne.symm nb
    · exact Ne.symm nl
  · obtain ⟨⟨dx, fs, h1, h2⟩, h3⟩ := M.R
    have n1 : r ≠ rl := fun z => by rw [z, hl] at h1; cases h1
    have n2 : d ≠ rl := fun z => by rw [z, hl] at h3; cases h3
    exact ⟨⟨dx, fs, by rw [upd_ne n1, upd_ne (ne_of_none h1 ht)]; exact h1, h2⟩, by rw [upd_ne n2, upd_ne (ne_of_none h3 ht)]; exact h3⟩
  · obtain ⟨ts, h1, h2, h3⟩ := M.A
    rw [hl] at h1
    cases h1
    refine ⟨ts ++ [t], by rw [upd_same, List.map_append]; rfl, by simp [h2], fun i t' y' L' e1 e2 => ?_⟩
    by_cases hi : i < ts.length
    · rw [List.getElem?_append_left hi] at e1
      rw [List.getElem?_append_left (by omega)] at e2
      have z := h3 i t' y' L' e1 e2
      have n1 : t' ≠ rl := fun w => by rw [w, hl] at z; cases z
      rw [upd_ne n1, upd_ne (ne_of_none z ht)]
      exact z
    · rw [List.getElem?_append_right (by omega)] at e1 e2
      have ei : i - ts.length = 0 := by
        have := (List.getElem?_eq_some_iff.mp e1).1
        simp at this
        omega
      have ej : i - rows.length = 0 := by omega
      rw [ei] at e1
      rw [ej] at e2
      cases e1
      cases e2
      rw [upd_ne (Ne.symm nt), upd_same]
  · rcases List.mem_append.mp hp with hp | hp
    · exact fit p hp
    · rw [List.mem_singleton] at hp
      subst hp
      exact fy
  · rw [List.map_append]
    refine List.nodup_append.mpr ⟨nd, by simp, fun a ha c hc => ?_⟩
    rw [List.map_cons, List.map_nil, List.mem_singleton] at hc
    subst hc
    exact fun z => known_mem hk.2.1 (z ▸ ha)
end
theorem int_ok (n : Int) : PyData.canLay0 (.int n) = true := by simp only [PyData.canLay0]
end Law

/-! The law's own rack. -/
namespace Law
open PySem PySem.Spec PyProof.Rows L2 Sup
abbrev sRk : Stmt := top 21
def namesL : List Str := ["ash", "fir", "birch", "oak", "elm", "yew", "alder", "pinetreelong"]
def spRk (CR : Addr) : Sp := fun vs H Q _ => ∃ (b l : Addr) (m : Int), vs = [.ref b, .int m] ∧ Box H b l ∧ 0 ≤ m ∧ m ≤ 8 ∧
  ∀ (t r d rl : Addr) (rows : List Row) (H' : Hp), H' t = some (.tup [.ref r, .ref rl]) → Wld CR H' b l r d rl rows → (∀ p ∈ rows, 0 ≤ p.2 ∧ p.2 ≤ 10 ^ 18) → (rows.length ≤ m.toNat ∧ ∀ p ∈ rows, p.1 ∈ namesL) → SameB b H H' → Q (.ref t) H'
structure LTxtR (mg : Str → Option Value) (CR fT : Addr) : Prop where
  rack : mg "Rack" = some (.ref CR)
  take : mg "_law_take" = some (.ref fT)
  b_range : mg "range" = none
section
variable {P : Program} {w : World} {K : PySem.W.Frag} {mg : Str → Option Value} {base : Heap} {C : Errs} {CR fT : Addr}
theorem scRk : FnScope ["_law_box_here", "_law_many", "_law_rack_here", "_law_rows", "_law_names", "_law_turn", "_law_k", "_law_length", "_law_great", "_law_name"] ["_law_box_here", "_law_many"] (defScope sRk) := ⟨rfl, rfl, rfl, by decide +kernel, rfl, by decide +kernel, by decide +kernel⟩
set_option maxHeartbeats 0 in
theorem ok_rk {f fI fP : Addr} {fd fdT : FuncData} (F : Fun K "_law_rack" "_law_rack" sRk f fd) (GT : FnOk P w K mg base CX0 1 fT fdT ["_law_box_here", "_law_size"] spTake) (FT : Fun K "_law_take" "_law_take" sTake fT fdT) (bT : Binds K fdT ["_law_box_here", "_law_size"] [])
    (MR : Mk K CR fI) (G0 : KwX.FnKw P w K mg base (L2.CX P w) 6 fI [] (spRini C CR)) (GP : FnR P w K mg base (L2.CX P w) 5 fP (spPut C CR)) (MP : Meth K CR "put" fP) (cl : Cls K CR) (T : LTxtR mg CR fT) : FnOk P w K mg base CX0 8 f fd ["_law_box_here", "_law_many"] (spRk CR) := by
  refine F.ok scRk (fun vs H Q E h => ?_) (fun cdv A outer s H vs Q E hr7 h => ?_)
  · obtain ⟨b, l, m, rfl, _⟩ := h
    rfl
  · obtain ⟨b, l, m, rfl, B, m0, m8, k⟩ := h
    have hr1 : Room 1 _ := hr7.mono (by decide)
    have hr5 : Room 5 _ := hr7.mono (by decide)
    refine ⟨_, (pss_cons (ps_set (i := 2) scRk.nd rfl (Or.inl rfl) (KwX.pe_makeW0 (E := fun _ => E0) MR G0 hr7 rfl T.rack (passS passL)))
      (pss_cons (ps_set (i := 3) scRk.nd rfl (Or.inl rfl) (pe_lst pa_nil))
      (pss_cons (ps_set (i := 4) scRk.nd rfl (Or.inl rfl) (pe_lst (pa_cons pe_str (pa_cons pe_str (pa_cons pe_str (pa_cons pe_str (pa_cons pe_str (pa_cons pe_str (pa_cons pe_str (pa_cons pe_str pa_nil))))))))))
      (pss_cons (ps_set (i := 5) scRk.nd rfl (Or.inl rfl) (pe_call GT hr1 rfl T.take FT.kp bT .nil pass0 (pa_cons (pv 0) (pa_cons pe_int pa_nil))))
      (pss_cons (ps_for PassesOwn.never rfl (pi_range1 (by rfl) T.b_range (pa_cons (pe_call GT hr1 rfl T.take FT.kp bT .nil pass0 (pa_cons (pv 0) (pa_cons (pe_op op_add (pv 1) pe_int) pa_nil))) pa_nil)) (pg_name (i := 6) scRk.nd rfl (Or.inl rfl)) (pss_cons (ps_set (i := 7) scRk.nd rfl (Or.inl rfl) (pe_call GT hr1 rfl T.take FT.kp bT .nil pass0 (pa_cons (pv 0) (pa_cons pe_int pa_nil))))
      (pss_cons (ps_set (i := 8) scRk.nd rfl (Or.inl rfl) (pe_call GT hr1 rfl T.take FT.kp bT .nil pass0 (pa_cons (pv 0) (pa_cons (pe_op op_pow pe_int pe_int) pa_nil))))
      (C8.pss_cut (ps_if (pt_cmpR op_eq (pe_call GT hr1 rfl T.take FT.kp bT .nil pass0 (pa_cons (pv 0) (pa_cons pe_int pa_nil))) pe_int (nomark _)) (pss_one (ps_set (i := 7) scRk.nd rfl (Or.inl rfl) (pv 8))) pss_nil)
      (pss_cons (ps_set (i := 9) scRk.nd rfl (Or.inl rfl) (pe_ix ix_list (pv 4) (pe_op op_mod (pe_op op_add (pe_op op_mul (pv 6) pe_int) (pv 5)) pe_int) (fun _ _ => rfl)))
      (pss_cons (ps_expr (Own.pe_methW (E := fun _ => E0) (pv 2) cl MP GP hr5 (passS passL) (pa_cons (pv 9) (pa_cons (pv 7) pa_nil))))
      (pss_one (ps_expr (pe_bm PySem.F.plainAttrs_list PySem.F.slot_list_append PySem.F.type_list_append mt_append (pv 3) (pa_cons (pe_tup (pa_cons (pv 9) (pa_cons (pv 7) pa_nil))) pa_nil))))))))))
      (pss_one (ps_ret (pe_tup (pa_cons (pv 2) (pa_cons (pv 3) pa_nil)))))))))), ?_⟩
    refine mk_rack [] rfl rfl (by decide) (fun _ h => nomatch h) (fun c => absurd c (by decide)) (fun _ acc y L e => by cases e) (fun _ _ r d H1 nr nd nrd S1 R1 => ?_)
    refine ⟨by show 0 ≤ sizeLine; decide, fun rl hrl => ?_⟩
    have B1 := B.same S1
    have hrl0 := none_back S1 hrl
    have W1 : Wld CR (upd H1 rl (.lst [])) b l r d rl [] := ⟨B1.same (same_new hrl), R1.same (same_new hrl), ⟨[], upd_same, rfl, fun i t y L e => by cases e⟩, by decide, (fun _ h => nomatch h), List.nodup_nil, Ne.symm (B1.free hrl).2⟩
    have S2 : Same H (upd H1 rl (.lst [])) := same_tr S1 (same_new hrl)
    generalize upd H1 rl (.lst []) = H2 at W1 S2
    refine ⟨by show 8 ≤ sizeLine; decide, fun nl hnl => ?_⟩
    have W2 := W1.same (same_new (o := .lst (namesL.map V.str)) hnl)
    have S3 : Same H (upd H2 nl (.lst (namesL.map V.str))) := same_tr S2 (same_new hnl)
    have eN : upd H2 nl (.lst (namesL.map V.str)) nl = some (.lst (namesL.map V.str)) := upd_same
    have nb := W1.B.free hnl
    have nrl : rl ≠ nl := by
      obtain ⟨_, z, _⟩ := W1.A.len
      exact ne_of_none z hnl
    refine ⟨_, rfl, b, l, _, rfl, W2.B, by decide, by decide, fun turn H4 t0 t1 B4 k4 => ?_⟩
    have W4 := W2.draw B4 (SameB.of k4)
    have eN4 : H4 nl = some (.lst (namesL.map V.str)) := (k4 nl (Ne.symm nb.1)).trans upd_same
    have S4 : SameB b H H4 := fun c o nc e => (k4 c nc).trans (S3 c o e)
    refine ⟨_, rfl, _, rfl, _, _, rfl, rfl, b, l, _, rfl, B4, by omega, Nat.lt_of_le_of_lt (show (m + 1).natAbs ≤ 60 by omega) (by decide +kernel), fun n H5 n0 n1 B5 k5 => ⟨n, rfl, by omega, by omega, ?_⟩⟩
    have W5 := W4.draw B5 (SameB.of k5)
    have eN5 : H5 nl = some (.lst (namesL.map V.str)) := (k5 nl (Ne.symm nb.1)).trans eN4
    have S5 : SameB b H H5 := S4.trans (SameB.of k5)
    refine for_it (walk_range (lo := 0) (n := n.toNat)) (fun i σ' H' => ∃ (rows : List Row) (v6 v7 v8 v9 : Option V), σ' = [some (.ref b), some (.int m), some (.ref r), some (.ref rl), some (.ref nl), some (.int turn), v6, v7, v8, v9] ∧ Wld CR H' b l r d rl rows ∧ H' nl = some (.lst (namesL.map V.str)) ∧ SameB b H H' ∧
        (∀ p ∈ rows, 0 ≤ p.2 ∧ p.2 ≤ 10 ^ 18) ∧ rows.length = i ∧ ∀ p ∈ rows, ∃ j : Nat, j < i ∧ namesL[(j * 3 + turn.toNat) % 8]? = some p.1)
      ⟨[], _, _, _, _, rfl, W5, eN5, S5, (fun _ h => nomatch h), rfl, fun _ h => nomatch h⟩ (fun _ _ _ _ _ => trivial) ?_ ?_
    · rintro i x σ' H6 H7 hi ⟨rows, v6, v7, v8, v9, rfl, W, eN, S, hL, hlen, hnm⟩ ⟨rfl, rfl⟩
      refine ⟨_, rfl, b, l, _, rfl, W.B, by decide, by decide, fun L H8 a0 a1 B8 k8 => ?_⟩
      refine ⟨_, rfl, _, _, rfl, rfl, pow_ok (by decide), b, l, _, rfl, B8, by decide, by decide +kernel, fun g H9 c0 c1 B9 k9 => ?_⟩
      have c1' : g < 10 ^ 18 := c1
      refine ⟨fun σ'' H'' => ∃ L' : Int, σ'' = [some (.ref b), some (.int m), some (.ref r), some (.ref rl), some (.ref nl), some (.int turn), some (.int (0 + i)), some (.int L'), some (.int g), v9] ∧ 0 ≤ L' ∧ L' ≤ 10 ^ 18 ∧ Wld CR H'' b l r d rl rows ∧ H'' nl = some (.lst (namesL.map V.str)) ∧ SameB b H H'', ?_, ?_⟩
      · refine ⟨_, rfl, b, l, _, rfl, B9, by decide, by decide, fun q H10 _ _ B10 k10 => ⟨rfl, _, rfl, ?_⟩⟩
        have W10 := ((W.draw B8 (SameB.of k8)).draw B9 (SameB.of k9)).draw B10 (SameB.of k10)
        have e10 : H10 nl = some (.lst (namesL.map V.str)) := (k10 nl (Ne.symm nb.1)).trans ((k9 nl (Ne.symm nb.1)).trans ((k8 nl (Ne.symm nb.1)).trans eN))
        have S10 := ((S.trans (SameB.of k8)).trans (SameB.of k9)).trans (SameB.of k10)
        exact ite2 (fun _ => ⟨_, rfl, g, rfl, c0, by omega, W10, e10, S10⟩) (fun _ => ⟨L, rfl, a0, by omega, W10, e10, S10⟩)
      rintro _ H10 ⟨L', rfl, l0, l1, W10, e10, S10⟩
      have hi8 : i < 8 := by omega
      obtain ⟨y, hy⟩ : ∃ y, namesL[(i * 3 + turn.toNat) % 8]? = some y := ⟨_, List.getElem?_eq_getElem (show _ < 8 by omega)⟩
      have hyi : atI (namesL.map V.str) ((((0 : Int) + (i : Int)) * 3 + turn) % 8) = some (.str y) := by
        have z := at_nat (xs := namesL.map V.str) (j := (i * 3 + turn.toNat) % 8) (v := .str y) (by rw [List.getElem?_map, hy]; rfl)
        have e : (((i * 3 + turn.toNat) % 8 : Nat) : Int) = (((0 : Int) + (i : Int)) * 3 + turn) % 8 := by omega
        rw [e] at z
        exact z
      refine ⟨_, rfl, _, rfl, _, _, rfl, rfl, .inr ⟨by decide, by decide⟩, _, rfl, _, _, rfl, rfl, _, _, rfl, rfl, (by show (0 : Int) < 8; decide), nl, _, _, _, rfl, rfl, SqL.of e10, hyi, ?_⟩
      have fy : Fit y := by
        have z : ∀ x ∈ namesL, Fit x := by decide +kernel
        exact z y (List.mem_of_getElem? hy)
      have by_ : badN y = false := by
        have z : ∀ x ∈ namesL, badN x = false := by decide +kernel
        exact z y (List.mem_of_getElem? hy)
      have ky : known rows y = false := by
        refine Bool.eq_false_iff.mpr fun z => ?_
        obtain ⟨p, hp, e⟩ := List.mem_map.mp (List.contains_iff_mem.mp z)
        obtain ⟨j, hj, hj2⟩ := hnm p hp
        rw [e] at hj2
        have inj : ∀ a, a < 8 → ∀ b, b < 8 → namesL[a]? = namesL[b]? → a = b := by decide +kernel
        have := inj _ (by omega) _ (by omega) (hj2.trans hy.symm)
        omega
      have hdue : due rows y L' = .put := by
        unfold due
        rw [if_neg (by rw [by_]; decide), if_neg (by rw [ky]; decide), if_neg (by omega), if_neg (by omega)]
      obtain ⟨⟨dx, fs, w1, w2, w3⟩, w4⟩ := id W10.R
      refine ⟨_, rfl, r, dx, fs, rfl, w1, w3 _ (by decide), _, rfl, _, rfl, r, d, rows, y, L', rfl, W10.R, by omega, fy, Nat.lt_of_le_of_lt (show L'.natAbs ≤ 10 ^ 18 by omega) (by decide +kernel), ⟨fun z => (by rw [hdue] at z; cases z), fun z => (by rw [hdue] at z; cases z), fun z => (by rw [hdue] at z; cases z), fun z => (by rw [hdue] at z; cases z)⟩, fun _ => ?_⟩
      have M := W10.put (y := y) (L := L') same_rfl
      have nd1 := W10.B.neD w4
      have ndn : nl ≠ d := fun z => by rw [z, w4] at e10; cases e10
      have eN' : upd H10 d (.dK (kvs (rows ++ [(y, L')]))) nl = some (.lst (namesL.map V.str)) := by rw [upd_ne ndn]; exact e10
      have Sx : SameB b H (upd H10 d (.dK (kvs (rows ++ [(y, L')])))) := fun c o nc e => by
        rw [upd_ne (ne_of_none e nd)]
        exact S10 c o nc e
      generalize upd H10 d (.dK (kvs (rows ++ [(y, L')]))) = H11 at M eN' Sx
      obtain ⟨xs, hxs, hxl⟩ := M.A.len
      refine ⟨_, rfl, .inl ⟨rfl, _, SqL.of hxs⟩, _, rfl, _, rfl, by show 2 ≤ sizeLine; decide, fun t ht => ?_⟩
      refine ⟨rl, xs, _, rfl, rfl, by rw [upd_ne (ne_of_none hxs ht)]; exact hxs, small1000 (by omega), rows ++ [(y, L')], _, _, _, _, rfl, M.push W10.fit W10.nd W10.nl hdue fy ht hxs, ?_, fun c o nc e => ?_, fun p hp => ?_, by rw [List.length_append, hlen]; rfl, fun p hp => ?_⟩
      · rw [upd_ne (Ne.symm nrl), upd_ne (ne_of_none eN' ht)]
        exact eN'
      · rw [upd_ne (ne_of_none e hrl0), upd_ne (ne_of_none (Sx c o nc e) ht)]
        exact Sx c o nc e
      · rcases List.mem_append.mp hp with hp | hp
        · exact hL p hp
        · rw [List.mem_singleton] at hp
          subst hp
          exact ⟨l0, l1⟩
      · rcases List.mem_append.mp hp with hp | hp
        · obtain ⟨j, hj, e⟩ := hnm p hp
          exact ⟨j, by omega, e⟩
        · rw [List.mem_singleton] at hp
          subst hp
          exact ⟨i, by omega, hy⟩
    · rintro σ' H6 ⟨rows, v6, v7, v8, v9, rfl, W, eN, S, hL, hlen, hnm⟩
      refine ⟨_, rfl, _, rfl, by show 2 ≤ sizeLine; decide, fun t ht => ?_⟩
      exact k t r d rl rows _ upd_same (W.same (same_new ht)) hL ⟨by omega, fun p hp => by
        obtain ⟨j, _, e⟩ := hnm p hp
        exact List.mem_of_getElem? e⟩ fun c o nc e => same_new ht _ _ (S c o nc e)
end
end Law

/-! The joins of a rack, as lists of places. -/
namespace Law
def lastD (j : List Nat) : Nat := j.getLastD 0
def grow (n : Nat) (j : List Nat) : List (List Nat) := (List.range' (lastD j + 1) (n - (lastD j + 1))).map fun b => j ++ [b]
def levA (n : Nat) : Nat → List (List Nat)
  | 0 => (List.range n).map fun a => [a]
  | k + 1 => (levA n k).flatMap (grow n)
def okL (ls : List Int) (a : Nat) : Bool := decide (2 ≤ ls.getD a 0)
def growP (ls : List Int) (j : List Nat) : List (List Nat) := if okL ls (j.headD 0) = true then ((List.range' (lastD j + 1) (ls.length - (lastD j + 1))).filter (okL ls)).map fun b => j ++ [b] else []
def levP (ls : List Int) : Nat → List (List Nat)
  | 0 => (List.range ls.length).map fun a => [a]
  | k + 1 => (levP ls k).flatMap (growP ls)
theorem lastD_snoc (j : List Nat) (b : Nat) : lastD (j ++ [b]) = b := by
  unfold lastD
  rw [List.getLastD_eq_getLast?, List.getLast?_append]
  simp
structure Good (n k : Nat) (j : List Nat) : Prop where
  len : j.length = k + 1
  lt : ∀ a ∈ j, a < n
  le : ∀ a ∈ j, a ≤ lastD j
  lo : k ≤ lastD j
  nd : j.Nodup
theorem Good.ne {n k : Nat} {j : List Nat} (g : Good n k j) : j ≠ [] := fun z => by
  have := g.len
  rw [z] at this
  cases this
theorem last_mem {j : List Nat} (h : j ≠ []) : lastD j ∈ j := by
  unfold lastD
  rw [List.getLastD_eq_getLast?, List.getLast?_eq_some_getLast h]
  exact List.getLast_mem h
theorem good_lev {n : Nat} : ∀ (k : Nat) (j : List Nat), j ∈ levA n k → Good n k j
  | 0, j, h => by
    obtain ⟨a, ha, rfl⟩ := List.mem_map.mp h
    have ha := List.mem_range.mp ha
    refine ⟨rfl, fun x hx => ?_, fun x hx => ?_, Nat.zero_le _, by simp⟩
    · rw [List.mem_singleton] at hx
      omega
    · rw [List.mem_singleton] at hx
      subst hx
      exact Nat.le_refl _
  | k + 1, j, h => by
    obtain ⟨i, hi, hj⟩ := List.mem_flatMap.mp h
    obtain ⟨b, hb, rfl⟩ := List.mem_map.mp hj
    have g := good_lev k i hi
    obtain ⟨hb1, hb2⟩ := List.mem_range'_1.mp hb
    have hl := g.lt _ (last_mem g.ne)
    have hbn : b < n := by omega
    refine ⟨by rw [List.length_append, g.len]; rfl, fun x hx => ?_, fun x hx => ?_, ?_, ?_⟩
    · rcases List.mem_append.mp hx with hx | hx
      · exact g.lt x hx
      · rw [List.mem_singleton] at hx
        omega
    · rw [lastD_snoc]
      rcases List.mem_append.mp hx with hx | hx
      · have := g.le x hx
        omega
      · rw [List.mem_singleton] at hx
        omega
    · rw [lastD_snoc]
      have := g.lo
      omega
    · refine List.nodup_append.mpr ⟨g.nd, by simp, fun x hx y hy => ?_⟩
      rw [List.mem_singleton] at hy
      have := g.le x hx
      omega
theorem lev_empty {n k : Nat} (h : n ≤ k) : levA n k = [] := by
  cases e : levA n k with
  | nil => rfl
  | cons j r =>
    have g := good_lev (n := n) k j (by rw [e]; exact List.mem_cons_self)
    have := g.lt _ (last_mem g.ne)
    have := g.lo
    omega
def allok (ls : List Int) (j : List Nat) : Bool := j.all (okL ls)
theorem grow_ok (ls : List Int) (j : List Nat) : (grow ls.length j).filter (allok ls) = if allok ls j = true then ((List.range' (lastD j + 1) (ls.length - (lastD j + 1))).filter (okL ls)).map (fun b => j ++ [b]) else [] := by
  unfold grow
  rw [List.filter_map]
  have e : (allok ls ∘ fun b => j ++ [b]) = fun b => allok ls j && okL ls b := by
    funext b
    unfold allok
    simp
  rw [e]
  cases allok ls j with
  | true => simp
  | false => simp
theorem flat_filter {α β : Type} (f : α → List β) (p : β → Bool) (q : α → Bool) (g : α → List β) : ∀ (l : List α), (∀ a ∈ l, (f a).filter p = if q a = true then g a else []) → (l.flatMap f).filter p = (l.filter q).flatMap g
  | [], _ => rfl
  | a :: l, h => by
    rw [List.flatMap_cons, List.filter_append, flat_filter f p q g l fun x hx => h x (List.mem_cons_of_mem _ hx), h a List.mem_cons_self, List.filter_cons]
    cases q a <;> simp
theorem levP_eq (ls : List Int) : ∀ k, levP ls (k + 1) = (levA ls.length (k + 1)).filter (allok ls)
  | 0 => by
    show (levP ls 0).flatMap (growP ls) = ((levA ls.length 0).flatMap (grow ls.length)).filter (allok ls)
    rw [flat_filter (grow ls.length) (allok ls) (fun _ => true) (growP ls) (levA ls.length 0) fun j hj => ?_]
    · rw [List.filter_eq_self.mpr fun _ _ => rfl]
      rfl
    · rw [grow_ok, if_pos rfl]
      unfold growP
      obtain ⟨a, _, rfl⟩ := List.mem_map.mp hj
      have e : allok ls [a] = okL ls ([a].headD 0) := by simp [allok]
      rw [e]
  | k + 1 => by
    show (levP ls (k + 1)).flatMap (growP ls) = ((levA ls.length (k + 1)).flatMap (grow ls.length)).filter (allok ls)
    rw [levP_eq ls k, flat_filter (grow ls.length) (allok ls) (allok ls) (growP ls) (levA ls.length (k + 1)) fun j hj => ?_]
    rw [grow_ok]
    have g := good_lev _ _ hj
    by_cases c : allok ls j = true
    · rw [if_pos c, if_pos c]
      unfold growP
      have h0 : okL ls (j.headD 0) = true := by
        cases j with
        | nil => exact absurd rfl g.ne
        | cons a r => exact List.all_eq_true.mp c a List.mem_cons_self
      rw [if_pos h0]
    · rw [if_neg c, if_neg c]
theorem levP_sub (ls : List Int) (k : Nat) {j : List Nat} (h : j ∈ levP ls k) : j ∈ levA ls.length k := by
  cases k with
  | zero => exact h
  | succ k =>
    rw [levP_eq] at h
    exact (List.mem_filter.mp h).1
theorem levP_empty {ls : List Int} {k : Nat} (h : ls.length ≤ k) : levP ls k = [] := by
  cases e : levP ls k with
  | nil => rfl
  | cons j r =>
    have z := levP_sub ls k (j := j) (by rw [e]; exact List.mem_cons_self)
    rw [lev_empty h] at z
    cases z
theorem levP_ok (ls : List Int) (k : Nat) {j : List Nat} (h : j ∈ levP ls (k + 1)) : ∀ a ∈ j, 2 ≤ ls.getD a 0 := fun a ha => by
  rw [levP_eq] at h
  have z := List.all_eq_true.mp (List.mem_filter.mp h).2 a ha
  exact of_decide_eq_true z
theorem levA_len : ∀ n, n < 9 → ∀ k, k < 9 → (levA n k).length ≤ 70 := by decide +kernel
theorem levP_len {ls : List Int} (h : ls.length ≤ 8) (k : Nat) : (levP ls k).length ≤ 70 := by
  by_cases hk : k < 9
  · have z := levA_len ls.length (by omega) k hk
    cases k with
    | zero => exact z
    | succ k =>
      rw [levP_eq]
      exact Nat.le_trans (List.length_filter_le _ _) z
  · rw [levP_empty (by omega)]
    exact Nat.zero_le _
/-- the joins of 1 to m ladders -/
def joinsP (ls : List Int) (m : Nat) : List (List Nat) := (List.range m).flatMap (levP ls)
theorem joinsP_succ (ls : List Int) (m : Nat) : joinsP ls (m + 1) = joinsP ls m ++ levP ls m := by
  unfold joinsP
  rw [List.range_succ, List.flatMap_append]
  simp
theorem joinsP_len {ls : List Int} (h : ls.length ≤ 8) : ∀ m, m ≤ 9 → (joinsP ls m).length ≤ 70 * m
  | 0, _ => by simp [joinsP]
  | m + 1, hm => by
    rw [joinsP_succ, List.length_append]
    have := joinsP_len h m (by omega)
    have := levP_len h m
    omega
theorem joinsP_more {ls : List Int} {m : Nat} (h : levP ls m = []) : ∀ d, joinsP ls (m + d) = joinsP ls m
  | 0 => rfl
  | d + 1 => by
    have key : ∀ d, levP ls (m + d) = [] := fun d => by
      induction d with
      | zero => exact h
      | succ d ih =>
        show (levP ls (m + d)).flatMap (growP ls) = []
        rw [ih]
        rfl
    rw [← Nat.add_assoc, joinsP_succ, joinsP_more h d, key, List.append_nil]
end Law

namespace Own
open PySem PySem.Spec PyProof.Rows L2
/-- o.m( *e), e a tuple or a list -/
def tMethSL (K : PySem.W.Frag) (C : Addr) (m : Str) (g : Addr) (sp : Sp) (E : XK) (ta te : TE) : TE := fun σ H Q => ta σ H fun x H1 => ∃ a dx fs, x = .ref a ∧ H1 a = some (.ins C dx fs) ∧ fs.lookup m = none ∧
  ∀ q, H1 q = none → te σ (upd H1 q (.met g a)) fun y H2 => ∃ b vs, y = .ref b ∧ (SqT K H2 b vs ∨ SqL K H2 b vs) ∧ H2 q = some (.met g a) ∧ sp (.ref a :: vs) H2 Q E
theorem pe_methSL {X : Cx} {CX : CXT} {k : Nat} {C g : Addr} {m : Str} {sp : Sp} {E : XK} {o e : Expr} {ta te : TE} {p apos pos : Pos} (ho : PE X o ta) (c : Cls X.K C) (bm : BMeth X.K C m g) (F : FnR X.prog X.w X.K X.mg X.base CX k g sp) (hr : Room k X.A)
    (hx : Passes CX X E) (ha : PE X e te) (hbase : attributeBase o m X.env (eval o X.env) = eval o X.env := by rfl) : PE X (.Call (.Attribute o m apos) [.Starred e p] [] pos) (tMethSL X.K C m g sp E ta te) := by
  refine ⟨fun pins s σ H Q I h => starcall_of hbase (thn (ho.run pins s σ H _ I h) fun u s1 ⟨x, H1, I1, rx, a, dx, fs, ex, ea, l, q⟩ => ?_)⟩
  subst ex
  cases (show u = Value.ref a from rx)
  refine getbound_ok I1 ea c bm l fun q1 s2 hq1 I2 => ?_
  refine PySem.W.ks_call (P := PySem.W.MethP X.K q1 g (.ref a)) rfl (PySem.W.keeps_M bm.fi) (PySem.W.ks_lone (thn (ha.run pins s2 σ _ _ I2 (q q1 hq1)) fun v s3 ⟨y, H2, I3, ry, t, vs, ey, ht, hm, hsp⟩ => ?_))
  subst ey
  cases (show v = Value.ref t from ry)
  refine StX.star_any I3 ht fun us s4 I4 rv => ⟨met_P I4 hm, ?_⟩
  exact wpAny_call (PySem.W.method_call (met_P I4 hm).1 (run_fnR (us := Value.ref a :: us) (vs := V.ref a :: vs) F hr hx I4 (.cons rfl rv) hsp))
end Own

namespace Law
open PySem PySem.Spec PyProof.Rows L2 Sup
abbrev sLens : Stmt := inClass (top 17) 5
abbrev sNmF : Stmt := inClass (top 17) 6
abbrev sJs : Stmt := inClass (top 17) 9
abbrev sLong : Stmt := inClass (top 17) 10
theorem call_lenK (K : PySem.W.Frag) {X : Cx} (h : X.K = K) : CallR X (.builtin "len") (fun xs H Q => ∃ p ys, xs = [.ref p] ∧ (SqL K H p ys ∨ SqT K H p ys) ∧ Q (.int ys.length) H) := h ▸ call_len_seq
section
variable {J : It} {n : Nat} {G : Hp → Prop} {Y : Nat → Hp → V → Hp → Prop}
/-- the inner clause of a comprehension with two: Nx behind it -/
def InnerC (D : Addr) (g1 : TG) (tt1 : TT) (te : TE) (vs1 : List Nat) (J1 : It) (σ2 : L2.St) (Nx : Hp → Prop) (H4 : Hp) : Prop := ∃ W1 : Nat → Nat → Hp → Prop, (∃ m, W1 0 m H4) ∧ ∀ j k H, W1 j k H →
  (J1.stop j H ∧ Nx H) ∨ (J1.go j H ∧ ∃ Nx1 : Hp → Prop, (∀ H', Nx1 H' → ∃ k', k' < k ∧ W1 (j + 1) k' H') ∧ ∀ x H', J1.yld j H x H' → g1 x (wipe σ2 vs1) H' fun σ3 H5 => wipe σ3 vs1 = wipe σ2 vs1 ∧ tt1 σ3 H5 fun b H6 =>
    if b = true then te σ3 H6 fun y H7 => ∃ acc, H7 D = some (.lst acc) ∧ acc.length < sizeLine ∧ Nx1 (upd H7 D (.lst (acc ++ [y]))) else Nx1 H6)
theorem lcI (w : Walk J n G Y) {g : TG} {tt : TT} {te : TE} {vs : List Nat} {σ : L2.St} {H0 : Hp} {D : Addr} {Qd : Hp → Prop} (Pv : Nat → Hp → Prop) (h0 : Pv 0 H0) (hG : ∀ i H, i ≤ n → Pv i H → G H)
    (hs : ∀ i x H H', i < n → Pv i H → Y i H x H' → g x (wipe σ vs) H' fun σ2 H2 => wipe σ2 vs = wipe σ vs ∧ tt σ2 H2 fun b H3 =>
      if b = true then te σ2 H3 fun y H4 => ∃ acc, H4 D = some (.lst acc) ∧ acc.length < sizeLine ∧ Pv (i + 1) (upd H4 D (.lst (acc ++ [y]))) else Pv (i + 1) H3) (hd : ∀ H, Pv n H → Qd H) : InnerC D g tt te vs J σ Qd H0 := by
  refine ⟨fun i m H => i ≤ n ∧ m + i = n ∧ Pv i H, ⟨n, Nat.zero_le _, rfl, h0⟩, ?_⟩
  rintro i m H ⟨hi, hm, p⟩
  have q := hG i H hi p
  rcases Nat.lt_or_ge i n with c | c
  · exact .inr ⟨w.goes i H c q, Pv (i + 1), fun H' p' => ⟨m - 1, by omega, by omega, by omega, p'⟩, fun x H' y => hs i x H H' c p (w.yields i H x H' c q y)⟩
  · obtain rfl : i = n := by omega
    exact .inl ⟨w.stops H q, hd H p⟩
/-- the outer clause -/
theorem lcO (w : Walk J n G Y) {g g1 : TG} {tt tt1 : TT} {te : TE} {wi1 : TI} {vs vs1 : List Nat} {σ : L2.St} {H1 : Hp} {D : Addr} {Qd : Hp → Prop} (Pv : Nat → Hp → Prop) (h0 : Pv 0 (upd H1 D (.lst []))) (hG : ∀ i H, i ≤ n → Pv i H → G H)
    (hs : ∀ i x H H', i < n → Pv i H → Y i H x H' → g x (wipe σ vs) H' fun σ2 H2 => wipe σ2 vs = wipe σ vs ∧ tt σ2 H2 fun b H3 => if b = true then wi1 σ2 H3 fun J1 H4 => InnerC D g1 tt1 te vs1 J1 σ2 (Pv (i + 1)) H4 else Pv (i + 1) H3) (hd : ∀ H, Pv n H → Qd H) :
    ∃ W : Nat → Nat → Hp → Prop, (∃ m, W 0 m (upd H1 D (.lst []))) ∧ ∀ i m H, W i m H →
      (J.stop i H ∧ Qd H) ∨ (J.go i H ∧ ∃ Nx : Hp → Prop, (∀ H', Nx H' → ∃ m', m' < m ∧ W (i + 1) m' H') ∧ ∀ x H', J.yld i H x H' → g x (wipe σ vs) H' fun σ2 H2 => wipe σ2 vs = wipe σ vs ∧ tt σ2 H2 fun b H3 =>
        if b = true then wi1 σ2 H3 fun J1 H4 => InnerC D g1 tt1 te vs1 J1 σ2 Nx H4 else Nx H3) := by
  refine ⟨fun i m H => i ≤ n ∧ m + i = n ∧ Pv i H, ⟨n, Nat.zero_le _, rfl, h0⟩, ?_⟩
  rintro i m H ⟨hi, hm, p⟩
  have q := hG i H hi p
  rcases Nat.lt_or_ge i n with c | c
  · exact .inr ⟨w.goes i H c q, Pv (i + 1), fun H' p' => ⟨m - 1, by omega, by omega, by omega, p'⟩, fun x H' y => hs i x H H' c p (w.yields i H x H' c q y)⟩
  · obtain rfl : i = n := by omega
    exact .inl ⟨w.stops H q, hd H p⟩
end
def natV (j : List Nat) : List V := j.map fun (a : Nat) => V.int (a : Int)
/-- a list at p of lists of places -/
def LevelAt (H : Hp) (p : Addr) (lv : List (List Nat)) : Prop := ∃ ps : List Addr, H p = some (.lst (ps.map V.ref)) ∧ ps.length = lv.length ∧ ∀ (i : Nat) (a : Addr) (j : List Nat), ps[i]? = some a → lv[i]? = some j → j ≠ [] ∧ H a = some (.lst (natV j))
theorem LevelAt.same {H H' : Hp} {p : Addr} {lv : List (List Nat)} (h : LevelAt H p lv) (s : Same H H') : LevelAt H' p lv := by
  obtain ⟨ps, h1, h2, h3⟩ := h
  exact ⟨ps, s _ _ h1, h2, fun i a j e1 e2 => ⟨(h3 i a j e1 e2).1, s _ _ (h3 i a j e1 e2).2⟩⟩
theorem LevelAt.at {H : Hp} {p : Addr} {lv : List (List Nat)} {i : Nat} {j : List Nat} (h : LevelAt H p lv) (e : lv[i]? = some j) : ∃ xs a, H p = some (.lst xs) ∧ xs[i]? = some (.ref a) ∧ H a = some (.lst (natV j)) := by
  obtain ⟨ps, h1, h2, h3⟩ := h
  have hi : i < lv.length := (List.getElem?_eq_some_iff.mp e).1
  have hi' : i < ps.length := by omega
  exact ⟨_, ps[i], h1, by rw [List.getElem?_map, List.getElem?_eq_getElem hi']; rfl, (h3 i _ j (List.getElem?_eq_getElem hi') e).2⟩
theorem LevelAt.push {H : Hp} {p q : Addr} {lv : List (List Nat)} {j : List Nat} (h : LevelAt H p lv) (hj : j ≠ []) (hq : H q = none) (hl : lv.length ≤ 900) :
    ∃ acc, (upd H q (.lst (natV j))) p = some (.lst acc) ∧ acc.length < sizeLine ∧ LevelAt (upd (upd H q (.lst (natV j))) p (.lst (acc ++ [.ref q]))) p (lv ++ [j]) := by
  obtain ⟨ps, h1, h2, h3⟩ := h
  have npq : p ≠ q := ne_of_none h1 hq
  refine ⟨_, by rw [upd_ne npq]; exact h1, small1000 (by rw [List.length_map]; omega), ps ++ [q], by rw [upd_same, List.map_append]; rfl, by simp [h2], fun i a j' e1 e2 => ?_⟩
  by_cases hi : i < ps.length
  · rw [List.getElem?_append_left hi] at e1
    rw [List.getElem?_append_left (by omega)] at e2
    obtain ⟨z1, z2⟩ := h3 i a j' e1 e2
    refine ⟨z1, ?_⟩
    have n1 : a ≠ p := fun w => by
      rw [w, h1] at z2
      have z2 := HO.lst.inj (Option.some.inj z2)
      cases ps with
      | nil => cases hi
      | cons b r =>
        cases j' with
        | nil => exact z1 rfl
        | cons x y => cases z2
    rw [upd_ne n1, upd_ne (ne_of_none z2 hq)]
    exact z2
  · rw [List.getElem?_append_right (by omega)] at e1 e2
    have ei : i - ps.length = 0 := by
      have := (List.getElem?_eq_some_iff.mp e1).1
      simp at this
      omega
    have ej : i - lv.length = 0 := by omega
    rw [ei] at e1
    rw [ej] at e2
    cases e1
    cases e2
    exact ⟨hj, by rw [upd_ne (Ne.symm npq), upd_same]⟩
def nameAt (rows : List Row) (a : Nat) : Str := (rows.map (·.1)).getD a ""
theorem at_last {xs : List V} (h : xs ≠ []) : atI xs (-1) = xs.getLast? := by
  have hl : 1 ≤ xs.length := by
    cases xs with
    | nil => exact absurd rfl h
    | cons a r => simp
  unfold atI ixN
  rw [if_neg (by omega), if_pos (by omega), List.getLast?_eq_getElem?]
  show xs[((-1 : Int) + (xs.length : Int)).toNat]? = _
  congr 1
  omega
theorem last_nat {j : List Nat} (h : j ≠ []) : (natV j).getLast? = some (V.int ((lastD j : Nat) : Int)) := by
  unfold natV
  rw [List.getLast?_map, List.getLast?_eq_some_getLast h]
  unfold lastD
  rw [List.getLastD_eq_getLast?, List.getLast?_eq_some_getLast h]
  rfl
abbrev lens (rows : List Row) : List Int := rows.map (·.2)
/-- the rack with its names in a list at ol -/
structure Ord (CR : Addr) (H : Hp) (r d ol : Addr) (rows : List Row) : Prop where
  R : Rck CR H r d rows
  O : H ol = some (.lst ((rows.map (·.1)).map V.str))
  n8 : rows.length ≤ 8
  nd : (rows.map (·.1)).Nodup
theorem Ord.same {CR : Addr} {H H' : Hp} {r d ol : Addr} {rows : List Row} (h : Ord CR H r d ol rows) (s : Same H H') : Ord CR H' r d ol rows := ⟨h.R.same s, s _ _ h.O, h.n8, h.nd⟩
theorem row_at {rows : List Row} {a : Nat} (h : a < rows.length) : ∃ L, rows[a]? = some (nameAt rows a, L) ∧ (lens rows).getD a 0 = L := by
  refine ⟨rows[a].2, ?_, ?_⟩
  · rw [List.getElem?_eq_getElem h]
    unfold nameAt
    rw [List.getD_eq_getElem?_getD, List.getElem?_map, List.getElem?_eq_getElem h]
    rfl
  · rw [List.getD_eq_getElem?_getD, List.getElem?_map, List.getElem?_eq_getElem h]
    rfl
theorem look_nodup {rows : List Row} (hn : (rows.map (·.1)).Nodup) {i : Nat} {y : Str} {L : Int} (h : rows[i]? = some (y, L)) : rows.lookup y = some L := by
  induction rows generalizing i with
  | nil => cases h
  | cons p r ih =>
    obtain ⟨x, M⟩ := p
    rw [List.map_cons, List.nodup_cons] at hn
    cases i with
    | zero =>
      cases h
      simp [List.lookup]
    | succ i =>
      rw [List.getElem?_cons_succ] at h
      have hy : y ∈ r.map (·.1) := List.mem_map.mpr ⟨_, List.mem_of_getElem? h, rfl⟩
      have ne : (y == x) = false := by
        refine beq_eq_false_iff_ne.mpr fun z => ?_
        subst z
        exact hn.1 hy
      rw [List.lookup, ne]
      exact ih hn.2 h
def spLong (CR : Addr) : Sp := fun vs H Q _ => ∃ (r d ol jl : Addr) (rows : List Row) (lv : List (List Nat)), vs = [.ref r, .ref ol, .ref jl] ∧ Ord CR H r d ol rows ∧ LevelAt H jl lv ∧ (∀ j ∈ lv, ∃ k, Good rows.length k j) ∧ lv.length ≤ 900 ∧ (lv.flatMap (growP (lens rows))).length ≤ 900 ∧
  ∀ (p : Addr) (H' : Hp), H p = none → Same H H' → LevelAt H' p (lv.flatMap (growP (lens rows))) → Q (.ref p) H'
structure JTxt (mg : Str → Option Value) : Prop where
  len : mg "len" = none
  range : mg "range" = none
  list : mg "list" = none
  b_range : mg "range" = none
section
variable {P : Program} {w : World} {K : PySem.W.Frag} {mg : Str → Option Value} {base : Heap} {C : Errs} {CR CL : Addr} {mc u : Value}
theorem scLong : FnScope ["self", "order", "joins", "least", "join", "at"] ["self", "order", "joins"] (defScope sLong) := ⟨rfl, rfl, rfl, by decide +kernel, rfl, by decide +kernel, by decide +kernel⟩
set_option maxHeartbeats 0 in
theorem ok_long {f : Addr} {fd : FuncData} (F : Fun K "_longer_joins" "Rack._longer_joins" sLong f fd) (OT : OverTxt K mg CL mc u) (cl : Cls K CR) (nD : NoAttr K CR "_lengths") (T : JTxt mg) : FnOk P w K mg base CX0 1 f fd ["self", "order", "joins"] (spLong CR) := by
  refine F.ok scLong (fun vs H Q E h => ?_) (fun cdv A outer s H vs Q E hr h => ?_)
  · obtain ⟨r, d, ol, jl, rows, lv, rfl, _⟩ := h
    rfl
  · obtain ⟨r, d, ol, jl, rows, lv, rfl, O, Lv, hG, h900, hO, k⟩ := h
    refine ⟨_, (pss_cons (ps_set (i := 3) scLong.nd rfl (Or.inr rfl) (pe_op op_add (ClX.pe_cval (pe_glob (v := .ref CL) rfl OT.g rfl)) pe_int)) (pss_one (ps_ret (pe_lc2 (own := [("join", 4), ("at", 5)]) (vs1 := [5]) (g := gName 4) (g1 := gName 5) (tt := tTest (tOp (rI0 fun i j => .bl (decide (j ≤ i))) (tDGet (tFld K (tVar 0) "_lengths") (tOp (rIxL K) (tVar 1) (tOp (rIxL K) (tVar 4) (tC (.int 0))))) (tVar 3))) (tt1 := tTest (tOp (rI0 fun i j => .bl (decide (j ≤ i))) (tDGet (tFld K (tVar 0) "_lengths") (tOp (rIxL K) (tVar 1) (tVar 5))) (tVar 3)))
        (wi1 := iRng2 (tCons (tOp (rI0 fun i j => .int (i + j)) (tOp (rIxL K) (tVar 4) (tUn (rU fun i => .int (-i)) (tC (.int 1)))) (tC (.int 1))) (tCons (tCB (fun xs H Q => ∃ p ys, xs = [.ref p] ∧ (SqL K H p ys ∨ SqT K H p ys) ∧ Q (.int ys.length) H) (tCons (tVar 1) tNil)) tNil)))
        (te := tLst (StX.tStar K (tVar 4) (tCons (tVar 5) tNil)))
        (by rfl) scLong.nd (pi_list (pv 2)) (blkOk_by (own := [("join", 4), ("at", 5)]) (N := ["self", "order", "joins", "least", "join", "at"]) (sc := defScope sLong) (by decide +kernel)) (by decide)
        (fun _ _ _ _ _ => pg_name (i := 4) scLong.nd rfl (Or.inl rfl)) (fun _ _ _ _ _ => pts_one (by exact (pt_cmpR op_ge (pe_dget (hu_of hr) (pe_fld (pv 0) rfl) (pe_ix (r := rIxL K) ix_list (pv 1) (pe_ix (r := rIxL K) ix_list (pv 4) pe_int (fun _ _ => rfl)) (fun _ _ => rfl)) (fun _ _ => rfl)) (pv 3) (nomark _))))
        (fun _ _ _ _ _ => by exact (pi_range2 (by rfl) T.range (pa_cons (pe_op op_add (pe_ix (r := rIxL K) ix_list (pv 4) (pe_un un_neg pe_int) (fun _ _ => rfl)) pe_int) (pa_cons (pe_callB (call_lenK K rfl) (by rfl) T.len PySem.boot_len (pa_cons (pv 1) pa_nil)) pa_nil))))
        (fun _ _ _ _ _ => pg_name (i := 5) scLong.nd rfl (Or.inl rfl)) (fun _ _ _ _ _ => pts_one (by exact (pt_cmpR op_ge (pe_dget (hu_of hr) (pe_fld (pv 0) rfl) (pe_ix (r := rIxL K) ix_list (pv 1) (pv 5) (fun _ _ => rfl)) (fun _ _ => rfl)) (pv 3) (nomark _))))
        (fun _ _ _ _ _ => by exact (pe_lst (StX.pa_star (pv 4) (pa_cons (pv 5) pa_nil)))))))), ?_⟩
    refine ⟨CL, mc, .int 1, u, rfl, OT.cr, OT.cv, _, _, rfl, rfl, ?_⟩
    obtain ⟨ps, p1, p2, p3⟩ := id Lv
    -- the length of the ladder at a place
    have dget : ∀ {H' : Hp} {a : Nat}, Same H H' → a < rows.length → ∃ dx fs, H' r = some (.ins CR dx fs) ∧ fs.lookup ("_lengths" : Str) = some (V.ref d) ∧ DGet H' d (.str (nameAt rows a)) (some (.int ((lens rows).getD a 0))) := fun {H' a} S ha => by
      obtain ⟨⟨dx, fs, w1, w2, w3⟩, w4⟩ := O.R.same S
      obtain ⟨L, l1, l2⟩ := row_at ha
      refine ⟨dx, fs, w1, w2, ?_⟩
      have z := DGet.k (k := .inr (nameAt rows a)) w4
      rw [val_kvs, look_nodup O.nd l1] at z
      rw [l2]
      exact z
    have nmA : ∀ {a : Nat}, a < rows.length → atI ((rows.map (·.1)).map V.str) (a : Int) = some (.str (nameAt rows a)) := fun {a} ha => by
      obtain ⟨L, l1, _⟩ := row_at ha
      exact at_nat (by rw [List.getElem?_map, List.getElem?_map, l1]; rfl)
    refine ⟨_, rfl, jl, rfl, ⟨_, SqL.of p1⟩, fun D hD => ?_⟩
    refine lcO (walk_list (xs := ps.map V.ref)) (fun i H' => LevelAt H' D ((lv.take i).flatMap (growP (lens rows))) ∧ Same H H') ⟨⟨[], upd_same, rfl, fun i a j e => by cases e⟩, same_new hD⟩ (fun _ _ _ h => SqL.of (h.2 _ _ p1)) ?_ ?_
    · rintro i x H1 H2 hi ⟨LvD, S1⟩ ⟨rfl, hx⟩
      rw [List.length_map] at hi
      rw [List.getElem?_map, List.getElem?_eq_getElem hi] at hx
      cases hx
      obtain ⟨j, hj⟩ : ∃ j, lv[i]? = some j := ⟨_, List.getElem?_eq_getElem (by omega)⟩
      obtain ⟨jne, hjl⟩ := p3 i _ j (List.getElem?_eq_getElem hi) hj
      obtain ⟨kk, g⟩ := hG j (List.mem_of_getElem? hj)
      have hj1 := S1 _ _ hjl
      have hO1 := S1 _ _ O.O
      have et : (lv.take (i + 1)).flatMap (growP (lens rows)) = (lv.take i).flatMap (growP (lens rows)) ++ growP (lens rows) j := by
        rw [List.take_succ, hj, List.flatMap_append]
        simp
      have hh : j.headD 0 < rows.length ∧ atI (natV j) 0 = some (.int ((j.headD 0 : Nat) : Int)) := by
        cases j with
        | nil => exact absurd rfl jne
        | cons a rest => exact ⟨g.lt a List.mem_cons_self, at_of (j := 0) rfl rfl⟩
      obtain ⟨dx, fs, w1, w2, w3⟩ := dget S1 hh.1
      refine ⟨rfl, _, rfl, r, CR, dx, fs, _, rfl, w1, cl, nD, w2, _, rfl, _, rfl, _, _, _, _, rfl, rfl, SqL.of hj1, hh.2, ol, _, _, _, rfl, rfl, SqL.of hO1, nmA hh.1, d, _, rfl, w3, _, rfl, _, _, rfl, rfl, _, rfl, ?_⟩
      by_cases c : 2 ≤ (lens rows).getD (j.headD 0) 0
      · refine if_t (decide_eq_true c) ?_
        have hl := g.lt _ (last_mem jne)
        have al : atI (natV j) (-1) = some (.int ((lastD j : Nat) : Int)) := by
          rw [at_last (xs := natV j) (fun z => jne (List.map_eq_nil_iff.mp z)), last_nat jne]
        have n8 := O.n8
        have hlen : ((rows.map (·.1)).map V.str).length = rows.length := by rw [List.length_map, List.length_map]
        refine ⟨_, rfl, 1, rfl, _, _, _, _, rfl, rfl, SqL.of hj1, al, _, _, rfl, rfl, _, rfl, ol, _, rfl, .inl (SqL.of hO1), _, _, rfl, ⟨by omega, by omega, by omega, by rw [hlen]; omega⟩, ?_⟩
        rw [hlen]
        have en : (((rows.length : Nat) : Int) - ((lastD j : Int) + 1)).toNat = rows.length - (lastD j + 1) := by omega
        rw [en]
        have eg : growP (lens rows) j = ((List.range' (lastD j + 1) (rows.length - (lastD j + 1))).filter (okL (lens rows))).map fun b => j ++ [b] := by
          unfold growP okL
          rw [if_pos (decide_eq_true c), List.length_map]
        refine lcI (walk_range (lo := (lastD j : Int) + 1) (n := rows.length - (lastD j + 1))) (fun m H' => LevelAt H' D ((lv.take i).flatMap (growP (lens rows)) ++ (((List.range' (lastD j + 1) (rows.length - (lastD j + 1))).take m).filter (okL (lens rows))).map fun b => j ++ [b]) ∧ Same H H') ⟨by simpa using LvD, S1⟩ (fun _ _ _ _ => trivial) ?_ ?_
        · rintro m x H3 H4 hm ⟨z1, z2⟩ ⟨rfl, hx⟩
          have hx : x = V.int ((lastD j + 1 + m : Nat) : Int) := by
            rw [hx]
            congr 1
          subst hx
          have hb : lastD j + 1 + m < rows.length := by omega
          obtain ⟨dx, fs, w1, w2, w3⟩ := dget z2 hb
          have er : (List.range' (lastD j + 1) (rows.length - (lastD j + 1)))[m]? = some (lastD j + 1 + m) := by
            rw [List.getElem?_range' hm]
            congr 1
            omega
          have hO4 := z2 _ _ O.O
          have hj4 := z2 _ _ hjl
          refine ⟨rfl, _, rfl, r, CR, dx, fs, _, rfl, w1, cl, nD, w2, _, rfl, _, rfl, ol, _, _, _, rfl, rfl, SqL.of hO4, nmA hb, d, _, rfl, w3, _, rfl, _, _, rfl, rfl, _, rfl, ?_⟩
          by_cases c2 : 2 ≤ (lens rows).getD (lastD j + 1 + m) 0
          · refine if_t (decide_eq_true c2) ⟨_, rfl, _, _, rfl, .inr (SqL.of hj4), _, rfl, ?_, fun q hq => ?_⟩
            · have := g.len
              have : (natV j).length = j.length := by unfold natV; rw [List.length_map]
              have := g.lo
              rw [sizeLine_eq]
              simp
              omega
            · have en2 : natV j ++ [V.int ((lastD j + 1 + m : Nat) : Int)] = natV (j ++ [lastD j + 1 + m]) := by
                unfold natV
                rw [List.map_append]
                rfl
              rw [en2]
              have sub : (((List.range' (lastD j + 1) (rows.length - (lastD j + 1))).take m).filter (okL (lens rows))).length ≤ (growP (lens rows) j).length := by
                rw [eg, List.length_map]
                exact ((List.take_sublist _ _).filter _).length_le
              have tot : ((lv.take (i + 1)).flatMap (growP (lens rows))).length ≤ 900 := by
                have e : (lv.flatMap (growP (lens rows))).length = ((lv.take (i + 1)).flatMap (growP (lens rows))).length + ((lv.drop (i + 1)).flatMap (growP (lens rows))).length := by
                  rw [← List.length_append, ← List.flatMap_append, List.take_append_drop]
                omega
              rw [et, List.length_append] at tot
              obtain ⟨acc, a1, a2, a3⟩ := z1.push (j := j ++ [lastD j + 1 + m]) (by simp) hq (by rw [List.length_append, List.length_map]; omega)
              refine ⟨acc, a1, a2, ?_, fun b o e => ?_⟩
              · rw [List.take_succ, er, Option.toList_some, List.filter_append, List.map_append, ← List.append_assoc]
                have ef : [lastD j + 1 + m].filter (okL (lens rows)) = [lastD j + 1 + m] := by
                  rw [List.filter_cons, show okL (lens rows) (lastD j + 1 + m) = true from decide_eq_true c2]
                  rfl
                rw [ef]
                exact a3
              · rw [upd_ne (ne_of_none e hD), upd_ne (ne_of_none (z2 _ _ e) hq)]
                exact z2 _ _ e
          · refine if_f (decide_eq_false c2) ⟨?_, z2⟩
            rw [List.take_succ, er, Option.toList_some, List.filter_append]
            have ef : [lastD j + 1 + m].filter (okL (lens rows)) = [] := by
              rw [List.filter_cons, show okL (lens rows) (lastD j + 1 + m) = false from decide_eq_false c2]
              rfl
            rw [ef, List.append_nil]
            exact z1
        · rintro H3 ⟨z1, z2⟩
          rw [List.take_of_length_le (l := List.range' (lastD j + 1) (rows.length - (lastD j + 1))) (by rw [List.length_range']; omega), ← eg, ← et] at z1
          exact ⟨z1, z2⟩
      · refine if_f (decide_eq_false c) ⟨?_, S1⟩
        rw [et]
        have eg : growP (lens rows) j = [] := by
          unfold growP okL
          rw [if_neg (by rw [decide_eq_false c]; decide)]
        rw [eg, List.append_nil]
        exact LvD
    · rintro H1 ⟨z1, z2⟩
      rw [List.length_map, p2, List.take_length] at z1
      exact k D H1 hD z2 z1
end
/-- the names of a join and its length -/
def jrow (rows : List Row) (j : List Nat) : List Str × Int := (j.map (nameAt rows), joinLen (j.map fun a => (lens rows).getD a 0))
theorem again_nodup : ∀ {seen r : List Str}, (seen ++ r).Nodup → again seen r = none
  | _, [], _ => rfl
  | seen, y :: r, h => by
    have h1 : y ∉ seen := fun z => (List.nodup_append.mp h).2.2 y z y List.mem_cons_self rfl
    unfold again
    rw [if_neg (fun z => h1 (List.contains_iff_mem.mp z))]
    exact again_nodup (by rw [List.append_assoc]; exact h)
structure JGood (rows : List Row) (k : Nat) (j : List Nat) : Prop where
  st : strange rows (j.map (nameAt rows)) = none
  ag : again [] (j.map (nameAt rows)) = none
  ne : j.map (nameAt rows) ≠ []
  rf : refused (lensOf rows (j.map (nameAt rows))) = none
  ls : lensOf rows (j.map (nameAt rows)) = j.map fun a => (lens rows).getD a 0
theorem jgood {rows : List Row} (hn : (rows.map (·.1)).Nodup) (h0 : ∀ p ∈ rows, 0 ≤ p.2) {k : Nat} {j : List Nat} (hj : j ∈ levP (lens rows) k) : JGood rows k j := by
  have g := good_lev _ _ (levP_sub _ _ hj)
  rw [List.length_map] at g
  have lk : ∀ a ∈ j, rows.lookup (nameAt rows a) = some ((lens rows).getD a 0) := fun a ha => by
    obtain ⟨L, l1, l2⟩ := row_at (g.lt a ha)
    rw [l2]
    exact look_nodup hn l1
  have els : lensOf rows (j.map (nameAt rows)) = j.map fun a => (lens rows).getD a 0 := by
    unfold lensOf
    rw [List.filterMap_map]
    clear hj g
    induction j with
    | nil => rfl
    | cons a j ih =>
      rw [List.filterMap_cons, ih fun x hx => lk x (List.mem_cons_of_mem _ hx)]
      have e : ((fun y => List.lookup y rows) ∘ nameAt rows) a = some ((lens rows).getD a 0) := lk a List.mem_cons_self
      rw [e]
      rfl
  refine ⟨List.find?_eq_none.mpr fun y hy => ?_, again_nodup ?_, fun z => g.ne (List.map_eq_nil_iff.mp z), ?_, els⟩
  · obtain ⟨a, ha, rfl⟩ := List.mem_map.mp hy
    rw [known_iff, lk a ha]
    exact Bool.false_ne_true
  · rw [List.nil_append]
    refine List.pairwise_map.mpr (g.nd.imp_of_mem fun {a b} ha hb hab z => hab ?_)
    have la := g.lt a ha
    have lb := g.lt b hb
    unfold nameAt at z
    rw [List.getD_eq_getElem?_getD, List.getD_eq_getElem?_getD, List.getElem?_eq_getElem (by rw [List.length_map]; exact la), List.getElem?_eq_getElem (by rw [List.length_map]; exact lb)] at z
    exact (List.getElem_inj hn).mp z
  · rw [els]
    unfold refused
    refine List.find?_eq_none.mpr fun x hx => ?_
    obtain ⟨a, ha, rfl⟩ := List.mem_map.mp hx
    have h1 : 0 ≤ (lens rows).getD a 0 := by
      obtain ⟨L, l1, l2⟩ := row_at (g.lt a ha)
      rw [l2]
      exact h0 _ (List.mem_of_getElem? l1)
    unfold lst
    rw [List.length_map, g.len]
    split
    · rename_i c
      cases k with
      | zero => omega
      | succ k =>
        have := levP_ok _ _ hj a ha
        simpa using this
    · simpa using h1
/-- the joins found so far: tuples of names and length, in a list at p -/
def FoundAt (H0 H : Hp) (p : Addr) (js : List (List Str × Int)) : Prop := ∃ ts : List Addr, H p = some (.lst (ts.map V.ref)) ∧ ts.length = js.length ∧
  ∀ (i : Nat) (t : Addr) (ns : List Str) (L : Int), ts[i]? = some t → js[i]? = some (ns, L) → ∃ nl, nl ≠ p ∧ H0 nl = none ∧ H t = some (.tup [.ref nl, .int L]) ∧ H nl = some (.lst (ns.map V.str))
theorem FoundAt.same {H0 H H' : Hp} {p : Addr} {js : List (List Str × Int)} (h : FoundAt H0 H p js) (s : Same H H') : FoundAt H0 H' p js := by
  obtain ⟨ts, h1, h2, h3⟩ := h
  refine ⟨ts, s _ _ h1, h2, fun i t ns L e1 e2 => ?_⟩
  obtain ⟨nl, n, n0, a, b⟩ := h3 i t ns L e1 e2
  exact ⟨nl, n, n0, s _ _ a, s _ _ b⟩
theorem FoundAt.push {H0 H : Hp} {p t nl : Addr} {js : List (List Str × Int)} {ns : List Str} {L : Int} {xs : List V} (h : FoundAt H0 H p js) (hx : H p = some (.lst xs)) (ht : H t = some (.tup [.ref nl, .int L])) (hn : H nl = some (.lst (ns.map V.str))) (np : nl ≠ p) (n0 : H0 nl = none) : FoundAt H0 (upd H p (.lst (xs ++ [.ref t]))) p (js ++ [(ns, L)]) := by
  obtain ⟨ts, h1, h2, h3⟩ := h
  rw [hx] at h1
  cases h1
  have old : ∀ {c : Addr} {ys : List V}, H c = some (.tup ys) → c ≠ p := fun {c ys} e z => by rw [z, hx] at e; cases e
  refine ⟨ts ++ [t], by rw [upd_same, List.map_append]; rfl, by simp [h2], fun i t' ns' L' e1 e2 => ?_⟩
  by_cases hi : i < ts.length
  · rw [List.getElem?_append_left hi] at e1
    rw [List.getElem?_append_left (by omega)] at e2
    obtain ⟨nl', n, m0, a, b⟩ := h3 i t' ns' L' e1 e2
    exact ⟨nl', n, m0, by rw [upd_ne (old a)]; exact a, by rw [upd_ne n]; exact b⟩
  · rw [List.getElem?_append_right (by omega)] at e1 e2
    have ei : i - ts.length = 0 := by
      have := (List.getElem?_eq_some_iff.mp e1).1
      simp at this
      omega
    have ej : i - js.length = 0 := by omega
    rw [ei] at e1
    rw [ej] at e2
    cases e1
    cases e2
    exact ⟨nl, np, n0, by rw [upd_ne (old ht)]; exact ht, by rw [upd_ne np]; exact hn⟩
/-- a rack fit for joins -/
structure Fine (CR : Addr) (H : Hp) (r d : Addr) (rows : List Row) : Prop where
  R : Rck CR H r d rows
  n8 : rows.length ≤ 8
  nd : (rows.map (·.1)).Nodup
  fit : ∀ p ∈ rows, Fit p.1
  len : ∀ p ∈ rows, 0 ≤ p.2 ∧ p.2.natAbs < 2 ^ 900
theorem Ord.other {CR : Addr} {H : Hp} {r d ol p : Addr} {rows : List Row} {xs zs : List V} (h : Ord CR H r d ol rows) (hp : H p = some (.lst xs)) (n : ol ≠ p) : Ord CR (upd H p (.lst zs)) r d ol rows := by
  refine ⟨?_, by rw [upd_ne n]; exact h.O, h.n8, h.nd⟩
  obtain ⟨⟨dx, fs, h1, h2⟩, h3⟩ := h.R
  have m1 : r ≠ p := fun z => by rw [z, hp] at h1; cases h1
  have m2 : d ≠ p := fun z => by rw [z, hp] at h3; cases h3
  exact ⟨⟨dx, fs, by rw [upd_ne m1]; exact h1, h2⟩, by rw [upd_ne m2]; exact h3⟩
theorem LevelAt.other {H : Hp} {lp p : Addr} {lv : List (List Nat)} {ts : List Addr} {zs : List V} (h : LevelAt H lp lv) (hp : H p = some (.lst (ts.map V.ref))) (n : lp ≠ p) : LevelAt (upd H p (.lst zs)) lp lv := by
  obtain ⟨ps, h1, h2, h3⟩ := h
  refine ⟨ps, by rw [upd_ne n]; exact h1, h2, fun i a j e1 e2 => ?_⟩
  obtain ⟨z1, z2⟩ := h3 i a j e1 e2
  have m : a ≠ p := fun w => by
    rw [w, hp] at z2
    have z2 := HO.lst.inj (Option.some.inj z2)
    cases j with
    | nil => exact z1 rfl
    | cons x y => cases ts <;> cases z2
  exact ⟨z1, by rw [upd_ne m]; exact z2⟩
def roomOf (σ : L2.St) : Nat := match σ[5]? with
  | some (some (V.int p)) => (10 - p).toNat
  | _ => 0
def spJs (CR : Addr) : Sp := fun vs H Q _ => ∃ (r d : Addr) (rows : List Row) (m : Int), vs = [.ref r, .int m] ∧ Fine CR H r d rows ∧ ∀ (p : Addr) (H' : Hp), Same H H' → H p = none → FoundAt H H' p ((joinsP (lens rows) m.toNat).map (jrow rows)) → Q (.ref p) H'
section
variable {P : Program} {w : World} {K : PySem.W.Frag} {mg : Str → Option Value} {base : Heap} {C : Errs} {CR CL : Addr}
theorem scJs : FnScope ["self", "most", "order", "found", "level", "parts", "join", "names", "at"] ["self", "most"] (defScope sJs) := ⟨rfl, rfl, rfl, by decide +kernel, rfl, by decide +kernel, by decide +kernel⟩
set_option maxHeartbeats 0 in
theorem ok_js {f fLg fJ : Addr} {fd fdLg : FuncData} (F : Fun K "_joins" "Rack._joins" sJs f fd) (GLg : FnOk P w K mg base CX0 1 fLg fdLg ["self", "order", "joins"] (spLong CR)) (bLg : Binds K fdLg ["self", "order", "joins"] []) (MLg : Meth K CR "_longer_joins" fLg)
    (GJn : FnR P w K mg base (L2.CX P w) 7 fJ (spJnd C CR CL)) (BJ : BMeth K CR "joined" fJ) (cl : Cls K CR) (nD : NoAttr K CR "_lengths") (cl2 : Cls K CL) (nL : NoAttr K CL "length") (T : JTxt mg) : FnOk P w K mg base CX0 8 f fd ["self", "most"] (spJs CR) := by
  refine F.ok scJs (fun vs H Q E h => ?_) (fun cdv A outer s H vs Q E hr h => ?_)
  · obtain ⟨r, d, rows, m, rfl, _⟩ := h
    rfl
  · obtain ⟨r, d, rows, m, rfl, Fn, k⟩ := h
    have hr1 : Room 1 _ := hr.mono (by decide)
    refine ⟨_, (pss_cons (ps_set (i := 2) scJs.nd rfl (Or.inr rfl) (pe_callTy (call_listD rfl) (by rfl) T.list (by decide +kernel) (pa_cons (pe_fld (pv 0) rfl) pa_nil)))
      (pss_cons (ps_set (i := 3) scJs.nd rfl (Or.inl rfl) (pe_lst pa_nil))
      (pss_cons (ps_setLc (i := 4) (own := [("at", 8)]) (g := gName 8) (tt := tYes) (by rfl) scJs.nd rfl rfl (sw_true rfl rfl rfl (by decide +kernel)) (pi_range1 (by rfl) T.b_range (pa_cons (pe_callB call_len_seq (by rfl) T.len PySem.boot_len (pa_cons (pv 2) pa_nil)) pa_nil)) (blkOk_by (own := [("at", 8)]) (N := ["self", "most", "order", "found", "level", "parts", "join", "names", "at"]) (sc := defScope sJs) (by decide +kernel)) (fun _ _ _ _ _ => pg_name (i := 8) scJs.nd rfl (Or.inl rfl)) (fun _ _ _ _ _ => pts_nil) (fun _ _ _ _ _ => (pe_lst (pa_cons (pv 8) pa_nil))))
      (pss_cons (ps_set (i := 5) scJs.nd rfl (Or.inl rfl) pe_int)
      (pss_cons (ps_while PassesOwn.never (PW.pt (pw_and (pt_truth (pv 4) (by intro _; rfl)) (pw_and1 (pt_cmpR op_le (pv 5) (pv 1) (nomark _))))) (pss_cons (ps_for PassesOwn.never rfl (pi_list (pv 4)) (pg_name (i := 6) scJs.nd rfl (Or.inl rfl)) (pss_cons (ps_setLc (i := 7) (own := [("at", 8)]) (g := gName 8) (tt := tYes) (by rfl) scJs.nd rfl rfl (sw_true rfl rfl rfl (by decide +kernel)) (pi_list (pv 6)) (blkOk_by (own := [("at", 8)]) (N := ["self", "most", "order", "found", "level", "parts", "join", "names", "at"]) (sc := defScope sJs) (by decide +kernel)) (fun _ _ _ _ _ => pg_name (i := 8) scJs.nd rfl (Or.inl rfl)) (fun _ _ _ _ _ => pts_nil) (fun _ _ _ _ _ => (pe_ix (r := rIxL K) ix_list (pv 2) (pv 8) (fun _ _ => rfl))))
      (pss_one (ps_expr (pe_bm PySem.F.plainAttrs_list PySem.F.slot_list_append PySem.F.type_list_append mt_append (pv 3) (pa_cons (pe_tup (pa_cons (pv 7) (pa_cons (pe_fld (Own.pe_methSL (E := E0) (pv 0) cl BJ GJn hr passL (pv 7)) rfl) pa_nil))) pa_nil))))))
      (pss_cons (ps_set (i := 4) scJs.nd rfl (Or.inl rfl) (pe_meth (pv 0) cl MLg GLg hr1 bLg .nil pass0 (pa_cons (pv 2) (pa_cons (pv 4) pa_nil))))
      (pss_one (ps_aug (i := 5) scJs.nd rfl (Or.inl rfl) pe_int ip_add)))))
      (pss_one (ps_ret (pv 3)))))))), ?_⟩
    obtain ⟨⟨dx, fs, w1, w2, w3⟩, w4⟩ := id Fn.R
    -- the names in order
    refine ⟨_, rfl, r, CR, dx, fs, _, rfl, w1, cl, nD, w2, d, _, rfl, .inl w4, fun ol hol => ?_⟩
    have e : (kvs rows).map (fun kv => kV kv.1) = (rows.map (·.1)).map V.str := by
      unfold kvs
      rw [List.map_map, List.map_map]
      rfl
    rw [e]
    have S1 := same_new (o := .lst ((rows.map (·.1)).map V.str)) hol
    have O1 : Ord CR (upd H ol (.lst ((rows.map (·.1)).map V.str))) r d ol rows := ⟨Fn.R.same S1, upd_same, Fn.n8, Fn.nd⟩
    generalize upd H ol (.lst ((rows.map (·.1)).map V.str)) = H1 at S1 O1
    refine ⟨by show 0 ≤ sizeLine; decide, fun fp hfp => ?_⟩
    have S2 := same_tr S1 (same_new (o := .lst []) hfp)
    have O2 := O1.same (same_new (o := .lst []) hfp)
    have hfp0 := none_back S1 hfp
    have F2 : FoundAt H (upd H1 fp (.lst [])) fp [] := ⟨[], upd_same, rfl, fun i t ns L e => by cases e⟩
    have O1' := O1
    generalize upd H1 fp (.lst []) = H2 at S2 O2 F2
    have n8 := Fn.n8
    refine ⟨_, rfl, ol, _, rfl, .inl (SqL.of O2.O), _, rfl, by omega, by rw [List.length_map, List.length_map]; omega, fun lp hlp => ?_⟩
    rw [List.length_map, List.length_map]
    refine lc_it (walk_range (lo := 0) (n := rows.length)) (fun i H' => LevelAt H' lp ((List.range i).map fun a => [a]) ∧ Same H2 H') ⟨⟨[], upd_same, rfl, fun i a j e => by cases e⟩, same_new hlp⟩ (fun _ _ _ _ => trivial) ?_ ?_
    · rintro i x H3 H4 hi ⟨z1, z2⟩ ⟨rfl, rfl⟩
      refine ⟨rfl, _, rfl, by show 1 ≤ sizeLine; decide, fun q hq => ?_⟩
      have en : [V.int ((0 : Int) + (i : Int))] = natV [i] := by
        rw [Int.zero_add]
        rfl
      rw [en]
      obtain ⟨acc, a1, a2, a3⟩ := z1.push (j := [i]) (by simp) hq (by rw [List.length_map, List.length_range]; omega)
      refine ⟨acc, a1, a2, ?_, fun b o e => ?_⟩
      · rw [List.range_succ, List.map_append]
        exact a3
      · rw [upd_ne (ne_of_none e hlp), upd_ne (ne_of_none (z2 _ _ e) hq)]
        exact z2 _ _ e
    rintro H3 ⟨Lv, S3⟩
    have nfl : fp ≠ lp := by
      obtain ⟨_, z, _⟩ := F2
      exact ne_of_none z hlp
    have nol : ol ≠ fp := ne_of_none O1.O hfp
    have S3' := same_tr S2 S3
    have O3 := O2.same S3
    have F3 := F2.same S3
    -- level by level
    have l8 : (lens rows).length = rows.length := List.length_map _
    refine while_by (fun σ' H' => ∃ (kk : Nat) (lp : Addr) (v6 v7 : Option V), σ' = [some (.ref r), some (.int m), some (.ref ol), some (.ref fp), some (.ref lp), some (.int ((kk : Int) + 1)), v6, v7, none] ∧ lp ≠ fp ∧ Ord CR H' r d ol rows ∧ LevelAt H' lp (levP (lens rows) kk) ∧ FoundAt H H' fp ((joinsP (lens rows) kk).map (jrow rows)) ∧ Same H H' ∧ (kk = 0 ∨ (kk : Int) ≤ m) ∧ kk ≤ 8)
      (fun σ' _ => roomOf σ') ⟨0, lp, _, _, rfl, Ne.symm nfl, O3, by rw [← l8] at Lv; exact Lv, F3, S3', .inl rfl, by omega⟩ ?_ ?_
    · rintro σ' H4 ⟨kk, lp, v6, v7, rfl, nlf, O4, Lv4, F4, S4, hkm, hk8⟩
      obtain ⟨ps, p1, p2, p3⟩ := id Lv4
      have fin : levP (lens rows) kk = [] ∨ m < (kk : Int) + 1 → Q (.ref fp) H4 := fun hc => by
        refine k fp H4 S4 hfp0 ?_
        have e : joinsP (lens rows) m.toNat = joinsP (lens rows) kk := by
          rcases hc with hc | hc
          · have em : m.toNat = kk + (m.toNat - kk) := by omega
            rw [em]
            exact joinsP_more hc _
          · congr 1
            omega
        rw [e]
        exact F4
      refine ⟨_, rfl, (!(ps.map V.ref).isEmpty), .inl ⟨_, SqL.of p1, rfl⟩, ?_⟩
      by_cases hne : levP (lens rows) kk = []
      · refine if_f ?_ ⟨_, rfl, fin (.inl hne)⟩
        rw [hne] at p2
        have : ps = [] := List.length_eq_zero_iff.mp p2
        rw [this]
        rfl
      have hps : ps ≠ [] := fun z => hne (List.length_eq_zero_iff.mp (by rw [← p2, z]; rfl))
      have hkn : kk < rows.length := by
        refine Nat.not_le.mp fun z => hne (levP_empty (by rw [l8]; exact z))
      refine if_t (by cases ps with | nil => exact absurd rfl hps | cons a l => rfl) ?_
      refine ⟨_, rfl, _, rfl, _, _, rfl, rfl, _, rfl, ?_⟩
      by_cases hm' : ¬ ((kk : Int) + 1 ≤ m)
      · exact if_f (decide_eq_false hm') ⟨_, rfl, fin (.inr (by omega))⟩
      have hm : (kk : Int) + 1 ≤ m := Decidable.not_not.mp hm'
      refine if_t (decide_eq_true hm) ?_
      have lev70 := levP_len (ls := lens rows) (by omega) kk
      have fnd := joinsP_len (ls := lens rows) (by omega) kk (by omega)
      refine ⟨_, rfl, lp, rfl, ⟨_, SqL.of p1⟩, for_it (walk_list (xs := ps.map V.ref)) (fun i σ'' H'' => ∃ v6 v7 : Option V, σ'' = [some (.ref r), some (.int m), some (.ref ol), some (.ref fp), some (.ref lp), some (.int ((kk : Int) + 1)), v6, v7, none] ∧ Ord CR H'' r d ol rows ∧ LevelAt H'' lp (levP (lens rows) kk) ∧ H'' lp = some (.lst (ps.map V.ref)) ∧ FoundAt H H'' fp ((joinsP (lens rows) kk ++ (levP (lens rows) kk).take i).map (jrow rows)) ∧ Same H H'')
        ⟨_, _, rfl, O4, Lv4, p1, by rw [List.take_zero, List.append_nil]; exact F4, S4⟩ (fun i σ'' H'' _ h => ?_) ?_ ?_⟩
      · obtain ⟨_, _, _, _, _, z, _⟩ := h
        exact SqL.of z
      · rintro i x σ'' H5 H6 hi ⟨v6, v7, rfl, O5, Lv5, p5, F5, S5⟩ ⟨rfl, hx⟩
        rw [List.length_map] at hi
        rw [List.getElem?_map, List.getElem?_eq_getElem hi] at hx
        cases hx
        obtain ⟨j, hj⟩ : ∃ j, (levP (lens rows) kk)[i]? = some j := ⟨_, List.getElem?_eq_getElem (by omega)⟩
        obtain ⟨xs5, a5, q1, q2, q3⟩ := Lv5.at hj
        rw [p5] at q1
        cases q1
        rw [List.getElem?_map, List.getElem?_eq_getElem hi] at q2
        cases q2
        have hjm := List.mem_of_getElem? hj
        have JG := jgood Fn.nd (fun p hp => (Fn.len p hp).1) hjm
        have g := good_lev _ _ (levP_sub _ _ hjm)
        rw [l8] at g
        refine ⟨_, rfl, ps[i], rfl, ⟨_, SqL.of q3⟩, fun D hD => ?_⟩
        refine lc_it (walk_list (xs := natV j)) (LcP D H6 fun t => j[t]?.bind fun a => some (V.str (nameAt rows a))) (LcP.start hD) (fun _ _ _ h => SqL.of (h.2 _ _ q3)) ?_ ?_
        · rintro t x H7 H8 ht p ⟨rfl, hx⟩
          have ht' : t < j.length := by
            unfold natV at ht
            rw [List.length_map] at ht
            exact ht
          unfold natV at hx
          rw [List.getElem?_map, List.getElem?_eq_getElem ht'] at hx
          cases hx
          obtain ⟨L, l1, l2⟩ := row_at (g.lt j[t] (List.getElem_mem ht'))
          have := g.len
          exact ⟨rfl, _, rfl, _, rfl, ol, _, _, _, rfl, rfl, SqL.of (p.2 _ _ O5.O), at_nat (by rw [List.getElem?_map, List.getElem?_map, l1]; rfl), p.push hD same_rfl (by rw [List.getElem?_eq_getElem ht']; rfl) (by omega)⟩
        rintro H7 ⟨g7, s7⟩
        have enl : (natV j).length = j.length := by unfold natV; rw [List.length_map]
        rw [enl, range_fm] at g7
        have ens : (j.filterMap fun a => some (V.str (nameAt rows a))) = (j.map (nameAt rows)).map V.str := by
          rw [List.map_map]
          exact congrFun (List.filterMap_eq_map (f := fun a => V.str (nameAt rows a))) j
        rw [ens] at g7
        have F7 := F5.same s7
        obtain ⟨ts, t1, t2, t3⟩ := id F7
        have nDf : D ≠ fp := by
          obtain ⟨_, z, _⟩ := F5
          exact Ne.symm (ne_of_none z hD)
        have O7 := O5.same s7
        obtain ⟨⟨dx7, fs7, y1, y2, y3⟩, y4⟩ := id O7.R
        refine ⟨_, rfl, .inl ⟨rfl, _, SqL.of t1⟩, _, rfl, _, rfl, r, dx7, fs7, rfl, y1, y3 _ (by decide), fun q hq => ?_⟩
        have sq := same_new (o := .met fJ r) hq
        have few := g.len
        refine ⟨_, rfl, D, _, rfl, .inr (SqL.of (sq _ _ g7)), upd_same, r, d, rows, j.map (nameAt rows), rfl, ⟨O7.R.same sq, by rw [List.length_map]; omega, fun y hy => ?_, fun p hp => (Fn.len p hp).2⟩,
          ⟨fun y e => (by rw [JG.st] at e; cases e), fun y _ e => (by rw [JG.ag] at e; cases e), fun e => absurd e JG.ne, fun v _ _ _ e => (by rw [JG.rf] at e; cases e), fun _ _ _ _ x H8 hx S8 hl => ?_⟩⟩
        · obtain ⟨a, ha, rfl⟩ := List.mem_map.mp hy
          obtain ⟨L, l1, _⟩ := row_at (g.lt a ha)
          exact Fn.fit _ (List.mem_of_getElem? l1)
        obtain ⟨dx8, fs8, x1, x2, x3⟩ := id hl
        refine ⟨x, CL, dx8, fs8, _, rfl, x1, cl2, nL, x2, by show 2 ≤ sizeLine; decide, fun t ht => ?_⟩
        have st := same_new (o := .tup [V.ref D, .int (joinLen (lensOf rows (j.map (nameAt rows))))]) ht
        have s79 := same_tr (same_tr sq S8) st
        have t19 := s79 _ _ t1
        have tl : (ts.map V.ref).length ≤ 1000 := by
          rw [List.length_map, t2, List.length_map, List.length_append, List.length_take]
          omega
        refine ⟨fp, _, _, rfl, rfl, t19, small1000 tl, _, _, rfl, (O7.same s79).other t19 nol, ((Lv5.same s7).same s79).other t19 nlf, ?_, ?_, fun b o e => ?_⟩
        · rw [upd_ne nlf]
          exact s79 _ _ (s7 _ _ p5)
        · have z := (F7.same s79).push t19 upd_same (s79 _ _ g7) nDf (none_back S5 hD)
          have et : (joinsP (lens rows) kk ++ (levP (lens rows) kk).take (i + 1)).map (jrow rows) = (joinsP (lens rows) kk ++ (levP (lens rows) kk).take i).map (jrow rows) ++ [(j.map (nameAt rows), joinLen (lensOf rows (j.map (nameAt rows))))] := by
            rw [List.take_succ, hj, Option.toList_some, ← List.append_assoc, List.map_append (l₂ := [j])]
            rw [JG.ls]
            rfl
          rw [et]
          exact z
        · rw [upd_ne (ne_of_none e hfp0)]
          exact s79 _ _ (s7 _ _ (S5 _ _ e))
      · rintro σ'' H5 ⟨v6, v7, rfl, O5, Lv5, p5, F5, S5⟩
        rw [List.length_map, p2, List.take_length, ← joinsP_succ] at F5
        obtain ⟨⟨dx5, fs5, y1, y2, y3⟩, y4⟩ := id O5.R
        have lev71 := levP_len (ls := lens rows) (by omega) (kk + 1)
        refine ⟨_, rfl, r, dx5, fs5, rfl, y1, y3 _ (by decide), _, rfl, _, rfl, r, d, ol, lp, rows, levP (lens rows) kk, rfl, O5, Lv5, fun j hj => ⟨kk, ?_⟩, by omega, ?_, fun p' H6 np S6 Lv6 => ?_⟩
        · have z := good_lev _ _ (levP_sub _ _ hj)
          rw [l8] at z
          exact z
        · exact Nat.le_trans lev71 (by omega)
        · have n6 : p' ≠ fp := by
            obtain ⟨_, z, _⟩ := F5
            exact Ne.symm (ne_of_none z np)
          refine ⟨_, rfl, _, _, rfl, rfl, ⟨kk + 1, p', _, _, rfl, n6, O5.same S6, Lv6, F5.same S6, same_tr S5 S6, .inr (by omega), by omega⟩, ?_⟩
          show (10 - ((kk : Int) + 1 + 1)).toNat < (10 - ((kk : Int) + 1)).toNat
          omega
    · intro σ' H' Q1 Q2 hq h
      obtain ⟨v, e1, kb, tv, h⟩ := h
      refine ⟨v, e1, kb, tv, ?_⟩
      cases kb with
      | false => exact hq _ _ h
      | true =>
        obtain ⟨x, ex, y, ey, i, j, ri, rj, bb, eb, hh⟩ := h
        exact ⟨x, ex, y, ey, i, j, ri, rj, bb, eb, hq _ _ hh⟩
end
end Law

/-! y = {k: v for ..} on one line, y a local. -/
namespace DcX
open PySem PySem.Spec PyProof.Rows L2
section
variable {X : Cx} {kx vx tg iter : Expr} {ifs : List Expr} {scope : Scope} {own : List (Str × Nat)} {wi : TI} {g : TG} {tt : TT} {tk tv : TE}
theorem swd_true {kx vx : Expr} {gs : List Comprehension} {scope : Scope} {pos py : Pos} {y : Str} {l : Nat} {env : Env} (hk : env.scope.kind = .function) (hy : env.scope.names.lookup y = some .local) (hl : (py.line == pos.line) = true)
    (ha : (scope.names.any fun (n, k) => n == y && (k == .local || k == .cell)) = false) : swapsWith (.DictComp kx vx gs scope pos) (some (.Name y py)) l env = pure true := by
  have k1 : env.kindOf y = some .local := hy
  have k2 : env.blockKind = .function := by unfold Env.blockKind; rw [hk]; rfl
  unfold swapsWith
  simp only [k2, k1, ha, Expr.pos, hl]
  rfl
theorem ps_setDc {i : Nat} {y : Str} {py pos spos : Pos} (hc : X.calm = true) (hN : X.N.Nodup) (hy : X.N[i]? = some y) (hyl : X.env.scope.names.lookup y = some .local)
    (hsw : swapsWith (.DictComp kx vx [⟨tg, iter, ifs, 0⟩] scope pos) (some (.Name y py)) spos.line X.env = pure true) (hi : PI X tg iter wi) (ok : BlkOk X.N X.env.scope scope own)
    (hg : ∀ s H C cl fp, PG (X.blk s H scope (compEnvC scope cl C X.env) fp) tg g) (ht : ∀ s H C cl fp, PTs (X.blk s H scope (compEnvC scope cl C X.env) fp) ifs tt)
    (hk : ∀ s H C cl fp, PE (X.blk s H scope (compEnvC scope cl C X.env) fp) kx tk) (he : ∀ s H C cl fp, PE (X.blk s H scope (compEnvC scope cl C X.env) fp) vx tv) (hs : ∀ x, foldedSetIterable iter X.env x = pure x := by intro _; rfl) :
    PS X (.Assign [.Name y py] (.DictComp kx vx [⟨tg, iter, ifs, 0⟩] scope pos) spos) (tAsg (tDc wi g tt tk tv (own.map (·.2))) (gName i)) := by
  refine ⟨fun pins s σ H D I h => ?_⟩
  rw [exec_Assign_Name_used _ _ _ _ hsw]
  refine wpAny_bind (wpAny_standAt (wpAny_bind ?_))
  show wpAny _ X.A (do let _ ← comprehension (.DictComp kx vx [⟨tg, iter, ifs, 0⟩] scope pos) scope X.env (firstIterPos [⟨tg, iter, ifs, 0⟩] pos) newDict false (eval iter X.env) (some (assign (.Name y py) X.env))) _ _ s
  have h : tDc wi g tt tk tv (own.map (·.2)) σ H (fun x H1 => gName i x σ H1 D.nx) := h
  refine wpAny_bind (thn (dc_core (Qf := fun _ s' => SP X pins D .next s') hc hN I hi ok hg ht hk he hs h fun L C s' m H' I' q hn f => ?_) fun _ s' hq => wpAny_pure (wpAny_pure hq))
  show wpAny _ _ (assign (.Name y py) X.env (.ref L)) _ _ _
  refine wpAny_assign_Name (store_ok2 (v := V.ref L) I' hN hy (.inl hyl) rfl (fun s2 I2 ⟨a, sb, ha⟩ => ?_) (.inr hyl))
  obtain ⟨f0, f1, f2, f3, f4, f5⟩ := f
  have hne : C ≠ a := ha.elim (fun z => by rw [z]; exact f1) fun z e => f4 y a z e.symm
  exact ⟨m, hn.sameBut sb hne, fun h3 sb3 => ⟨_, H', I2.turned (t' := s2.toks) (fun b o hb e => (sb3.2 b hb).trans e) f0 f1 f3 f4 f5, q⟩⟩
/-- over a walk -/
theorem dc_it {J : It} {n : Nat} {G : Hp → Prop} {Y : Nat → Hp → V → Hp → Prop} (w : Walk J n G Y) {vs : List Nat} {σ : L2.St} {H1 : Hp} {D : Addr} {Qd : Hp → Prop} (Pv : Nat → Hp → Prop) (h0 : Pv 0 (upd H1 D (.dK []))) (hG : ∀ i H, i ≤ n → Pv i H → G H)
    (hs : ∀ i x H H', i < n → Pv i H → Y i H x H' → g x (wipe σ vs) H' fun σ2 H2 => wipe σ2 vs = wipe σ vs ∧ tt σ2 H2 fun b H3 =>
      if b = true then tk σ2 H3 fun y H4 => tv σ2 H4 fun z H5 => ∃ kvs k, y = kV k ∧ H5 D = some (.dK kvs) ∧ kvs.length < sizeLine ∧ Pv (i + 1) (upd H5 D (.dK (putK kvs k z))) else Pv (i + 1) H3) (hd : ∀ H, Pv n H → Qd H) :
    ∃ W : Nat → Nat → Hp → Prop, (∃ m, W 0 m (upd H1 D (.dK []))) ∧ ∀ i m H, W i m H →
      (J.stop i H ∧ Qd H) ∨ (J.go i H ∧ ∃ Nx : Hp → Prop, (∀ H', Nx H' → ∃ m', m' < m ∧ W (i + 1) m' H') ∧ ∀ x H', J.yld i H x H' → g x (wipe σ vs) H' fun σ2 H2 => wipe σ2 vs = wipe σ vs ∧ tt σ2 H2 fun b H3 =>
        if b = true then tk σ2 H3 fun y H4 => tv σ2 H4 fun z H5 => ∃ kvs k, y = kV k ∧ H5 D = some (.dK kvs) ∧ kvs.length < sizeLine ∧ Nx (upd H5 D (.dK (putK kvs k z))) else Nx H3) := by
  refine ⟨fun i m H => i ≤ n ∧ m + i = n ∧ Pv i H, ⟨n, Nat.zero_le _, rfl, h0⟩, ?_⟩
  rintro i m H ⟨hi, hm, p⟩
  have q := hG i H hi p
  rcases Nat.lt_or_ge i n with c | c
  · exact .inr ⟨w.goes i H c q, Pv (i + 1), fun H' p' => ⟨m - 1, by omega, by omega, by omega, p'⟩, fun x H' y => hs i x H H' c p (w.yields i H x H' c q y)⟩
  · obtain rfl : i = n := by omega
    exact .inl ⟨w.stops H q, hd H p⟩
end
end DcX

namespace Law
open PySem PySem.Spec PyProof.Rows L2 Sup
def firstOf (js : List (List Str × Int)) (L : Int) : List Str := match js.find? fun p => decide (p.2 = L) with
  | some p => p.1
  | none => []
/-- the numbers of a list, each once, in the order of their first places -/
def uniq : List Int → List Int → List Int
  | acc, [] => acc
  | acc, x :: r => if acc.contains x = true then uniq acc r else uniq (acc ++ [x]) r
abbrev allJ (rows : List Row) (m : Int) : List (List Str × Int) := (joinsP (lens rows) m.toNat).map (jrow rows)
def spNmF (CR : Addr) : Sp := fun vs H Q _ => ∃ (r d : Addr) (rows : List Row) (L m : Int), vs = [.ref r, .int L, .int m] ∧ Fine CR H r d rows ∧ ∀ (p : Addr) (H' : Hp), H p = none → Same H H' → H' p = some (.lst ((firstOf (allJ rows m) L).map V.str)) → Q (.ref p) H'
def spLens (CR : Addr) : Sp := fun vs H Q _ => ∃ (r d : Addr) (rows : List Row) (m : Int), vs = [.ref r, .int m] ∧ Fine CR H r d rows ∧
  ∀ (p : Addr) (H' : Hp) (ns : List Int), H p = none → Same H H' → ns.Perm (uniq [] ((allJ rows m).map (·.2))) → ns.Pairwise (· ≤ ·) → H' p = some (.lst (ns.map V.int)) → Q (.ref p) H'
structure ETxt (mg : Str → Option Value) : Prop where
  sorted : mg "sorted" = none
  int : mg "int" = none
def kvsI (l : List Int) : List (Key × V) := l.map fun x => (.inl x, .bl true)
theorem put_kvsI (acc : List Int) (x : Int) : putK (kvsI acc) (.inl x) (.bl true) = kvsI (if acc.contains x = true then acc else acc ++ [x]) := by
  unfold putK kvsI
  by_cases c : acc.contains x = true
  · have c' := List.contains_iff_mem.mp c
    rw [if_pos c, if_pos (List.any_eq_true.mpr ⟨(.inl x, .bl true), List.mem_map.mpr ⟨x, c', rfl⟩, by simp⟩), List.map_map]
    refine List.map_congr_left fun y _ => ?_
    show (if (Sum.inl y : Key) = Sum.inl x then _ else _) = _
    split <;> rfl
  · rw [if_neg c, if_neg ?_, List.map_append]
    · rfl
    · intro h
      obtain ⟨kv, h1, h2⟩ := List.any_eq_true.mp h
      obtain ⟨y, hy, rfl⟩ := List.mem_map.mp h1
      have e : y = x := Sum.inl.inj (of_decide_eq_true h2)
      subst e
      exact c (List.contains_iff_mem.mpr hy)
theorem uniq_len : ∀ (acc r : List Int), (uniq acc r).length ≤ acc.length + r.length
  | _, [] => Nat.le_refl _
  | acc, x :: r => by
    unfold uniq
    split
    · have := uniq_len acc r
      rw [List.length_cons]
      omega
    · have := uniq_len (acc ++ [x]) r
      rw [List.length_append] at this
      simp at this ⊢
      omega
theorem FoundAt.len {H0 H : Hp} {p : Addr} {js : List (List Str × Int)} (h : FoundAt H0 H p js) : ∃ ts : List Addr, H p = some (.lst (ts.map V.ref)) ∧ ts.length = js.length := by
  obtain ⟨ts, h1, h2, _⟩ := h
  exact ⟨ts, h1, h2⟩
theorem allJ_len {rows : List Row} (h : rows.length ≤ 8) (m : Int) : (allJ rows m).length ≤ 630 := by
  have l8 : (lens rows).length = rows.length := List.length_map _
  rw [List.length_map]
  by_cases c : m.toNat ≤ 9
  · have := joinsP_len (ls := lens rows) (by omega) m.toNat c
    omega
  · have e : m.toNat = 9 + (m.toNat - 9) := by omega
    rw [e, joinsP_more (m := 9) (levP_empty (by omega))]
    have := joinsP_len (ls := lens rows) (by omega) 9 (by omega)
    omega
section
variable {P : Program} {w : World} {K : PySem.W.Frag} {mg : Str → Option Value} {base : Heap} {CR : Addr}
theorem scNmF : FnScope ["self", "length", "most", "names", "joined"] ["self", "length", "most"] (defScope sNmF) := ⟨rfl, rfl, rfl, by decide +kernel, rfl, by decide +kernel, by decide +kernel⟩
set_option maxHeartbeats 0 in
theorem ok_nmf {f fJs : Addr} {fd fdJs : FuncData} (F : FunD K "names_for" "Rack.names_for" (defArgs sNmF) (defBody sNmF) (defScope sNmF) [.int 1] [] f fd) (GJs : FnOk P w K mg base CX0 8 fJs fdJs ["self", "most"] (spJs CR)) (bJs : Binds K fdJs ["self", "most"] []) (MJs : Meth K CR "_joins" fJs) (cl : Cls K CR) : FnOk P w K mg base (L2.CX P w) 9 f fd ["self", "length", "most"] (spNmF CR) := by
  refine F.ok scNmF (fun vs H Q E h => ?_) (fun cdv A outer s H vs Q E hr h => ?_)
  · obtain ⟨r, d, rows, L, m, rfl, _⟩ := h
    rfl
  · obtain ⟨r, d, rows, L, m, rfl, Fn, k⟩ := h
    refine ⟨_, (pss_cons (ps_for (passes_of rfl) rfl (pi_list (pe_meth (pv 0) cl MJs GJs hr bJs .nil pass0 (pa_cons (pv 2) pa_nil))) (pg_tup (by rfl) (pgs_cons (pg_name (i := 3) scNmF.nd rfl (Or.inl rfl)) (pgs_cons (pg_name (i := 4) scNmF.nd rfl (Or.inl rfl)) pgs_nil))) (pss_one (ps_if (pt_cmpR op_eq (pv 4) (pv 1) (nomark _)) (pss_one (ps_ret (pv 3))) pss_nil)))
      (pss_one (ps_ret (pe_lst pa_nil)))), ?_⟩
    obtain ⟨⟨dx, fs, w1, w2, w3⟩, w4⟩ := id Fn.R
    refine ⟨_, rfl, r, dx, fs, rfl, w1, w3 _ (by decide), _, rfl, r, d, rows, m, rfl, Fn, fun p H1 S1 np Fd => ?_⟩
    obtain ⟨ts, t1, t2, t3⟩ := Fd
    have t2 : ts.length = (allJ rows m).length := t2
    refine ⟨p, rfl, ⟨_, SqL.of t1⟩, for_it (walk_list (xs := ts.map V.ref)) (fun i σ' H' => (∃ v3 v4 : Option V, σ' = [some (.ref r), some (.int L), some (.int m), v3, v4]) ∧ H' = H1 ∧ ∀ x ∈ (allJ rows m).take i, ¬ x.2 = L) ⟨⟨_, _, rfl⟩, rfl, fun _ h => nomatch h⟩ (fun i σ' H' _ h => by rw [h.2.1]; exact SqL.of t1) ?_ ?_⟩
    · rintro i x σ' H2 H3 hi ⟨⟨v3, v4, rfl⟩, rfl, hno⟩ ⟨rfl, hx⟩
      rw [List.length_map] at hi
      rw [List.getElem?_map, List.getElem?_eq_getElem hi] at hx
      cases hx
      obtain ⟨⟨ns, M⟩, hj⟩ : ∃ p, (allJ rows m)[i]? = some p := ⟨_, List.getElem?_eq_getElem (by omega)⟩
      obtain ⟨nl, _, n0, z1, z2⟩ := t3 i _ ns M (List.getElem?_eq_getElem hi) hj
      refine ⟨_, _, rfl, SqT.of z1, rfl, _, _, rfl, _, _, rfl, rfl, _, rfl, _, rfl, rfl, _, rfl, ?_⟩
      have et : (allJ rows m).take (i + 1) = (allJ rows m).take i ++ [(ns, M)] := by
        rw [List.take_succ, hj]
        rfl
      by_cases c : M = L
      · subst c
        refine if_t (by simp) ⟨_, rfl, k nl _ n0 S1 ?_⟩
        have ef : firstOf (allJ rows m) M = ns := by
          unfold firstOf
          have e : allJ rows m = (allJ rows m).take i ++ (ns, M) :: (allJ rows m).drop (i + 1) := by
            obtain ⟨hi', hx⟩ := List.getElem?_eq_some_iff.mp hj
            rw [← hx, List.getElem_cons_drop, List.take_append_drop]
          rw [e, List.find?_append, List.find?_eq_none.mpr fun x hx => by simpa using hno x hx]
          simp
        rw [ef]
        exact z2
      · refine if_f (by simp [c]) ⟨⟨_, _, rfl⟩, rfl, fun x hx => ?_⟩
        rw [et] at hx
        rcases List.mem_append.mp hx with hx | hx
        · exact hno x hx
        · rw [List.mem_singleton] at hx
          subst hx
          exact c
    · rintro σ' H2 ⟨⟨v3, v4, rfl⟩, rfl, hno⟩
      rw [List.length_map, t2, List.take_length] at hno
      refine ⟨by show 0 ≤ sizeLine; decide, fun q hq => k q _ (none_back S1 hq) (same_tr S1 (same_new hq)) ?_⟩
      have ef : firstOf (allJ rows m) L = [] := by
        unfold firstOf
        rw [List.find?_eq_none.mpr fun x hx => by simpa using hno x hx]
      rw [upd_same, ef]
      rfl
theorem scLens : FnScope ["self", "most", "seen", "_", "length"] ["self", "most"] (defScope sLens) := ⟨rfl, rfl, rfl, by decide +kernel, rfl, by decide +kernel, by decide +kernel⟩
set_option maxHeartbeats 0 in
theorem ok_lens {f fJs : Addr} {fd fdJs : FuncData} (F : FunD K "lengths" "Rack.lengths" (defArgs sLens) (defBody sLens) (defScope sLens) [.int 1] [] f fd) (GJs : FnOk P w K mg base CX0 8 fJs fdJs ["self", "most"] (spJs CR)) (bJs : Binds K fdJs ["self", "most"] []) (MJs : Meth K CR "_joins" fJs) (cl : Cls K CR) (T : ETxt mg) : FnOk P w K mg base (L2.CX P w) 9 f fd ["self", "most"] (spLens CR) := by
  refine F.ok scLens (fun vs H Q E h => ?_) (fun cdv A outer s H vs Q E hr h => ?_)
  · obtain ⟨r, d, rows, m, rfl, _⟩ := h
    rfl
  · obtain ⟨r, d, rows, m, rfl, Fn, k⟩ := h
    refine ⟨_, (pss_cons (DcX.ps_setDc (i := 2) (own := [("_", 3), ("length", 4)]) (g := gTup K 2 (gCons (gName 3) (gCons (gName 4) gNil))) (tt := tYes) rfl scLens.nd rfl rfl (DcX.swd_true rfl rfl rfl (by decide +kernel)) (pi_list (pe_meth (pv 0) cl MJs GJs hr bJs .nil pass0 (pa_cons (pv 1) pa_nil)))
        (blkOk_by (own := [("_", 3), ("length", 4)]) (N := ["self", "most", "seen", "_", "length"]) (sc := defScope sLens) (by decide +kernel)) (fun _ _ _ _ _ => by exact (pg_tup (n := 2) rfl (pgs_cons (pg_name (i := 3) scLens.nd rfl (Or.inl rfl)) (pgs_cons (pg_name (i := 4) scLens.nd rfl (Or.inl rfl)) pgs_nil))))
        (fun _ _ _ _ _ => pts_nil) (fun _ _ _ _ _ => pv 4) (fun _ _ _ _ _ => pe_bl))
      (pss_one (ps_ret (pe_callB cr_sortedI (by rfl) T.sorted (by decide +kernel) (pa_cons (pe_lock (pe_lc (own := [("length", 4)]) (g := gName 4) (tt := tYes) (by rfl) scLens.nd (pi_keys (pv 2))
        (blkOk_by (own := [("length", 4)]) (N := ["self", "most", "seen", "_", "length"]) (sc := defScope sLens) (by decide +kernel)) (fun _ _ _ _ _ => pg_name (i := 4) scLens.nd rfl (Or.inl rfl)) (fun _ _ _ _ _ => pts_nil) (fun _ _ _ _ _ => pe_callTy call_int1 (by rfl) T.int (by decide +kernel) (pa_cons (pv 4) pa_nil)))) pa_nil))))), ?_⟩
    obtain ⟨⟨dx, fs, w1, w2, w3⟩, w4⟩ := id Fn.R
    refine ⟨_, rfl, r, dx, fs, rfl, w1, w3 _ (by decide), _, rfl, r, d, rows, m, rfl, Fn, fun p H1 S1 np Fd => ?_⟩
    have len6 := allJ_len Fn.n8 m
    obtain ⟨ts, t1, t2, t3⟩ := Fd
    have t2 : ts.length = (allJ rows m).length := t2
    refine ⟨p, rfl, ⟨_, SqL.of t1⟩, fun D hD => ?_⟩
    refine DcX.dc_it (walk_list (xs := ts.map V.ref)) (fun i H' => (∃ acc, H' D = some (.dK (kvsI acc)) ∧ acc.length ≤ i ∧ uniq [] ((allJ rows m).map (·.2)) = uniq acc (((allJ rows m).map (·.2)).drop i)) ∧ Same H1 H') ⟨⟨[], upd_same, Nat.le_refl _, rfl⟩, same_new hD⟩ (fun _ _ _ h => SqL.of (h.2 _ _ t1)) ?_ ?_
    · rintro i x H2 H3 hi ⟨⟨acc, a1, a2, a3⟩, S2⟩ ⟨rfl, hx⟩
      rw [List.length_map] at hi
      rw [List.getElem?_map, List.getElem?_eq_getElem hi] at hx
      cases hx
      obtain ⟨⟨ns, M⟩, hj⟩ : ∃ p, (allJ rows m)[i]? = some p := ⟨_, List.getElem?_eq_getElem (by omega)⟩
      obtain ⟨nl, _, n0, z1, z2⟩ := t3 i _ ns M (List.getElem?_eq_getElem hi) hj
      have hm : ((allJ rows m).map (·.2))[i]? = some M := by rw [List.getElem?_map, hj]; rfl
      have ed : ((allJ rows m).map (·.2)).drop i = M :: ((allJ rows m).map (·.2)).drop (i + 1) := by
        have hl := (List.getElem?_eq_some_iff.mp hm).1
        rw [List.drop_eq_getElem_cons hl]
        rw [List.getElem?_eq_getElem hl] at hm
        rw [Option.some.inj hm]
      rw [ed] at a3
      refine ⟨_, _, rfl, SqT.of (S2 _ _ z1), rfl, _, _, rfl, _, _, rfl, rfl, rfl, _, rfl, _, .inl M, rfl, a1, by unfold kvsI; rw [List.length_map, sizeLine_eq]; omega, ?_, fun b o e => by rw [upd_ne (ne_of_none e hD)]; exact S2 _ _ e⟩
      refine ⟨if acc.contains M = true then acc else acc ++ [M], by rw [upd_same, put_kvsI], by split; omega; rw [List.length_append]; simp; omega, ?_⟩
      rw [a3]
      conv => lhs; unfold uniq
      split <;> rfl
    rintro H2 ⟨⟨acc, a1, a2, a3⟩, S2⟩
    rw [List.length_map, t2] at a2 a3
    rw [List.drop_of_length_le (by rw [List.length_map]; omega)] at a3
    have a3 : uniq [] ((allJ rows m).map (·.2)) = acc := a3
    refine ⟨D, _, a1, trivial, fun od => ?_⟩
    refine ⟨_, rfl, D, od, rfl, .inl ⟨kvsI acc, upd_same, fun D2 hD2 => ?_⟩⟩
    have nDD : D ≠ D2 := fun z => by rw [z, upd_same] at hD2; cases hD2
    refine lc_it walk_keys (LcP D2 (upd H2 D (.frz od (.dK (kvsI acc)))) fun i => acc[i]?.map V.int) (LcP.start hD2) (fun _ _ _ h => h.2 _ _ upd_same) ?_ ?_
    · rintro i x H3 H4 hi pp ⟨rfl, kk, v, hk, rfl⟩
      have hi' : i < acc.length := by unfold kvsI at hi; rw [List.length_map] at hi; exact hi
      have hk' : (kvsI acc)[i]? = some (.inl acc[i], .bl true) := by unfold kvsI; rw [List.getElem?_map, List.getElem?_eq_getElem hi']; rfl
      rw [hk'] at hk
      cases hk
      exact ⟨rfl, _, rfl, .inl ⟨_, rfl, pp.push hD2 same_rfl (by rw [List.getElem?_eq_getElem hi']; rfl) (by omega)⟩⟩
    rintro H3 ⟨g3, s3⟩
    have el : (kvsI acc).length = (acc.map V.int).length := by unfold kvsI; rw [List.length_map, List.length_map]
    have ef : (fun i : Nat => acc[i]?.map V.int) = fun i : Nat => (acc.map V.int)[i]? := by
      funext i
      rw [List.getElem?_map]
    rw [el, ef, range_id] at g3
    refine ⟨s3 _ _ upd_same, D2, acc, rfl, SqL.of (by rw [upd_ne (Ne.symm nDD)]; exact g3), fun ns q hp hs hq => ?_⟩
    have nD0 := none_back S1 hD
    have S3 : Same H (upd (upd H3 D (.dK (kvsI acc))) q (.lst (ns.map V.int))) := fun b o e => by
      have e1 := S1 _ _ e
      have n1 : b ≠ D := ne_of_none e nD0
      have e3 : upd H3 D (.dK (kvsI acc)) b = some o := by
        rw [upd_ne n1]
        exact s3 _ _ (by rw [upd_ne n1]; exact S2 _ _ e1)
      rw [upd_ne (ne_of_none e3 hq)]
      exact e3
    refine k q _ ns ?_ S3 (by rw [a3]; exact hp) hs upd_same
    cases e : H q with
    | none => rfl
    | some o =>
      have e1 := S1 _ _ e
      have n1 : q ≠ D := ne_of_none e nD0
      have e3 : upd H3 D (.dK (kvsI acc)) q = some o := by
        rw [upd_ne n1]
        exact s3 _ _ (by rw [upd_ne n1]; exact S2 _ _ e1)
      rw [hq] at e3
      cases e3
end
end Law

namespace Law
open PySem PySem.Spec PyProof.Rows L2 Sup
abbrev sNbs : Stmt := top 22
abbrev sSets : Stmt := top 23
abbrev sLjs : Stmt := top 24
abbrev sAsc : Stmt := top 25
abbrev sFst : Stmt := top 26
abbrev sLaw : Stmt := top 27
def setsA (n : Nat) : List (List Nat) := (List.range n).flatMap (levA n)
theorem LevelAt.cat {H : Hp} {a b p : Addr} {xs ys : List V} {u v : List (List Nat)} (hu : LevelAt H a u) (hv : LevelAt H b v) (ha : H a = some (.lst xs)) (hb : H b = some (.lst ys)) (hp : H p = none) : LevelAt (upd H p (.lst (xs ++ ys))) p (u ++ v) := by
  obtain ⟨us, u1, u2, u3⟩ := hu
  obtain ⟨vs, v1, v2, v3⟩ := hv
  rw [ha] at u1
  rw [hb] at v1
  cases u1
  cases v1
  refine ⟨us ++ vs, by rw [upd_same, List.map_append], by rw [List.length_append, List.length_append, u2, v2], fun i t j e1 e2 => ?_⟩
  by_cases hi : i < us.length
  · rw [List.getElem?_append_left hi] at e1
    rw [List.getElem?_append_left (by omega)] at e2
    obtain ⟨z1, z2⟩ := u3 i t j e1 e2
    exact ⟨z1, by rw [upd_ne (ne_of_none z2 hp)]; exact z2⟩
  · rw [List.getElem?_append_right (by omega)] at e1 e2
    rw [← u2] at e2
    obtain ⟨z1, z2⟩ := v3 _ t j e1 e2
    exact ⟨z1, by rw [upd_ne (ne_of_none z2 hp)]; exact z2⟩
theorem LevelAt.len {H : Hp} {p : Addr} {lv : List (List Nat)} (h : LevelAt H p lv) : ∃ xs, H p = some (.lst xs) ∧ xs.length = lv.length := by
  obtain ⟨ps, h1, h2, _⟩ := h
  exact ⟨_, h1, by rw [List.length_map]; exact h2⟩
theorem setsP_len {n : Nat} (hn : n ≤ 8) : ∀ i, i ≤ n → ((List.range i).flatMap (levA n)).length ≤ 70 * i
  | 0, _ => by simp
  | i + 1, hi => by
    rw [List.range_succ, List.flatMap_append, List.length_append]
    have := setsP_len hn i (by omega)
    have := levA_len n (by omega) i (by omega)
    rw [List.flatMap_cons, List.flatMap_nil, List.append_nil]
    omega
theorem part_len {α β : Type} {l : List α} {f : α → List β} {i j : Nat} {a : α} (h : l[i]? = some a) : ((l.take i).flatMap f ++ (f a).take j).length ≤ (l.flatMap f).length := by
  have e : l = l.take i ++ a :: l.drop (i + 1) := by
    obtain ⟨hi', hx⟩ := List.getElem?_eq_some_iff.mp h
    rw [← hx, List.getElem_cons_drop, List.take_append_drop]
  have e2 : (l.flatMap f).length = ((l.take i).flatMap f).length + ((f a).length + ((l.drop (i + 1)).flatMap f).length) := by
    conv => lhs; rw [e]
    rw [List.flatMap_append, List.flatMap_cons, List.length_append, List.length_append]
  rw [List.length_append, List.length_take, e2]
  omega
structure RTxt (mg : Str → Option Value) : Prop where
  b_range : mg "range" = none
def spSets : Sp := fun vs H Q _ => ∃ n : Nat, vs = [.int (n : Int)] ∧ n ≤ 8 ∧ ∀ (p : Addr) (H' : Hp), H p = none → Same H H' → LevelAt H' p (setsA n) → Q (.ref p) H'
section
variable {P : Program} {w : World} {K : PySem.W.Frag} {mg : Str → Option Value} {base : Heap}
theorem scSets : FnScope ["_law_many", "_law_sets_here", "_law_k", "_law_level", "_law_size", "_law_longer", "_law_row"] ["_law_many"] (defScope sSets) := ⟨rfl, rfl, rfl, by decide +kernel, rfl, by decide +kernel, by decide +kernel⟩
set_option maxHeartbeats 0 in
theorem ok_sets {f : Addr} {fd : FuncData} (F : Fun K "_law_sets" "_law_sets" sSets f fd) (T : RTxt mg) : FnOk P w K mg base CX0 1 f fd ["_law_many"] spSets := by
  refine F.ok scSets (fun vs H Q E h => ?_) (fun cdv A outer s H vs Q E hr h => ?_)
  · obtain ⟨n, rfl, _⟩ := h
    rfl
  · obtain ⟨n, rfl, n8, k⟩ := h
    refine ⟨_, (pss_cons (ps_set (i := 1) scSets.nd rfl (Or.inl rfl) (pe_lst pa_nil))
      (pss_cons (ps_setLc (i := 3) (own := [("_law_k", 2)]) (g := gName 2) (tt := tYes) (by rfl) scSets.nd rfl rfl (sw_true rfl rfl rfl (by decide +kernel)) (pi_range1 (by rfl) T.b_range (pa_cons (pv 0) pa_nil)) (blkOk_by (own := [("_law_k", 2)]) (N := ["_law_many", "_law_sets_here", "_law_k", "_law_level", "_law_size", "_law_longer", "_law_row"]) (sc := defScope sSets) (by decide +kernel)) (fun _ _ _ _ _ => pg_name (i := 2) scSets.nd rfl (Or.inl rfl)) (fun _ _ _ _ _ => pts_nil) (fun _ _ _ _ _ => (pe_lst (pa_cons (pv 2) pa_nil))))
      (pss_cons (ps_for PassesOwn.never rfl (pi_range1 (by rfl) T.b_range (pa_cons (pv 0) pa_nil)) (pg_name (i := 4) scSets.nd rfl (Or.inl rfl)) (pss_cons (ps_set (i := 1) scSets.nd rfl (Or.inl rfl) (pe_op op_cat (pv 1) (pv 3)))
      (pss_cons (ps_set (i := 5) scSets.nd rfl (Or.inl rfl) (pe_lst pa_nil))
      (pss_cons (ps_for PassesOwn.never rfl (pi_list (pv 3)) (pg_name (i := 6) scSets.nd rfl (Or.inl rfl)) (pss_one (ps_for PassesOwn.never rfl (pi_range2 (by rfl) T.b_range (pa_cons (pe_op op_add (pe_ix ix_list (pv 6) (pe_un un_neg pe_int) (fun _ _ => rfl)) pe_int) (pa_cons (pv 0) pa_nil))) (pg_name (i := 2) scSets.nd rfl (Or.inl rfl)) (pss_one (ps_expr (pe_bm PySem.F.plainAttrs_list PySem.F.slot_list_append PySem.F.type_list_append mt_append (pv 5) (pa_cons (pe_op op_cat (pv 6) (pe_lst (pa_cons (pv 2) pa_nil))) pa_nil)))))))
      (pss_one (ps_set (i := 3) scSets.nd rfl (Or.inl rfl) (pv 5)))))))
      (pss_one (ps_ret (pv 1)))))), ?_⟩
    refine ⟨by show 0 ≤ sizeLine; decide, fun sp hsp => ?_⟩
    have S1 := same_new (o := .lst []) hsp
    have L1 : LevelAt (upd H sp (.lst [])) sp ([] : List (List Nat)) := ⟨[], upd_same, rfl, fun i a j e => by cases e⟩
    generalize upd H sp (.lst []) = H1 at S1 L1
    refine ⟨_, rfl, (n : Int), rfl, by omega, by omega, fun lp hlp => ?_⟩
    refine lc_it (walk_range (lo := 0) (n := n)) (fun i H' => LevelAt H' lp ((List.range i).map fun a => [a]) ∧ Same H1 H') ⟨⟨[], upd_same, rfl, fun i a j e => by cases e⟩, same_new hlp⟩ (fun _ _ _ _ => trivial) ?_ ?_
    · rintro i x H3 H4 hi ⟨z1, z2⟩ ⟨rfl, rfl⟩
      refine ⟨rfl, _, rfl, by show 1 ≤ sizeLine; decide, fun q hq => ?_⟩
      have en : [V.int ((0 : Int) + (i : Int))] = natV [i] := by
        rw [Int.zero_add]
        rfl
      rw [en]
      obtain ⟨acc, a1, a2, a3⟩ := z1.push (j := [i]) (by simp) hq (by rw [List.length_map, List.length_range]; omega)
      refine ⟨acc, a1, a2, ?_, fun b o e => ?_⟩
      · rw [List.range_succ, List.map_append]
        exact a3
      · rw [upd_ne (ne_of_none e hlp), upd_ne (ne_of_none (z2 _ _ e) hq)]
        exact z2 _ _ e
    rintro H2 ⟨Lv, S2⟩
    have S12 := same_tr S1 S2
    have L2' := L1.same S2
    refine ⟨_, rfl, (n : Int), rfl, by omega, by omega, ?_⟩
    refine for_it (walk_range (lo := 0) (n := n)) (fun i σ' H' => ∃ (sp lp : Addr) (v2 v4 v5 v6 : Option V), σ' = [some (.int (n : Int)), some (.ref sp), v2, some (.ref lp), v4, v5, v6] ∧ H sp = none ∧ LevelAt H' sp ((List.range i).flatMap (levA n)) ∧ LevelAt H' lp (levA n i) ∧ Same H H')
      ⟨sp, lp, _, _, _, _, rfl, hsp, L2', Lv, S12⟩ (fun _ _ _ _ _ => trivial) ?_ ?_
    · rintro i x σ' H3 H4 hi ⟨sp, lp, v2, v4, v5, v6, rfl, nsp, Ls, Ll, S⟩ ⟨rfl, rfl⟩
      obtain ⟨xs, x1, x2⟩ := Ls.len
      obtain ⟨ys, y1, y2⟩ := Ll.len
      have m1 := setsP_len n8 i (by omega)
      have m2 := levA_len n (by omega) i (by omega)
      have m3 := levA_len n (by omega) (i + 1) (by omega)
      refine ⟨_, rfl, _, rfl, sp, lp, xs, ys, rfl, rfl, x1, y1, by rw [sizeLine_eq]; omega, fun sp2 hsp2 => ?_⟩
      have Ls2 := Ls.cat Ll x1 y1 hsp2
      have s2 := same_new (o := .lst (xs ++ ys)) hsp2
      have nsp2 := none_back S hsp2
      have Ll2 := Ll.same s2
      have S2 := same_tr S s2
      generalize upd H4 sp2 (.lst (xs ++ ys)) = H5 at Ls2 Ll2 S2
      refine ⟨by show 0 ≤ sizeLine; decide, fun lg hlg => ?_⟩
      obtain ⟨ps, p1, p2, p3⟩ := id Ll2
      refine ⟨_, rfl, lp, rfl, ⟨_, SqL.of (same_new hlg _ _ p1)⟩, ?_⟩
      refine for_it (walk_list (xs := ps.map V.ref)) (fun a σ' H' => ∃ (v2 v6 : Option V), σ' = [some (.int (n : Int)), some (.ref sp2), v2, some (.ref lp), some (.int (0 + (i : Int))), some (.ref lg), v6] ∧ LevelAt H' lg (((levA n i).take a).flatMap (grow n)) ∧ Same H5 H')
        ⟨_, _, rfl, ⟨[], upd_same, rfl, fun i a j e => by cases e⟩, same_new hlg⟩ (fun a σ' H' _ h => by obtain ⟨_, _, _, _, z⟩ := h; exact SqL.of (z _ _ p1)) ?_ ?_
      · rintro a x σ' H6 H7 ha ⟨v2, v6, rfl, Lg, S6⟩ ⟨rfl, hx⟩
        rw [List.length_map] at ha
        rw [List.getElem?_map, List.getElem?_eq_getElem ha] at hx
        cases hx
        obtain ⟨j, hj⟩ : ∃ j, (levA n i)[a]? = some j := ⟨_, List.getElem?_eq_getElem (by omega)⟩
        obtain ⟨jne, hjl⟩ := p3 a _ j (List.getElem?_eq_getElem ha) hj
        have gd := good_lev _ _ (List.mem_of_getElem? hj)
        have hl := gd.lt _ (last_mem jne)
        have al : atI (natV j) (-1) = some (.int ((lastD j : Nat) : Int)) := by
          rw [at_last (xs := natV j) (fun z => jne (List.map_eq_nil_iff.mp z)), last_nat jne]
        have hj6 := S6 _ _ hjl
        refine ⟨_, rfl, 1, rfl, _, _, _, _, rfl, rfl, SqL.of hj6, al, _, _, rfl, rfl, _, rfl, _, _, rfl, ⟨by omega, by omega, by omega, by omega⟩, ?_⟩
        have en : ((n : Int) - ((lastD j : Int) + 1)).toNat = n - (lastD j + 1) := by omega
        rw [en]
        have et : ((levA n i).take (a + 1)).flatMap (grow n) = ((levA n i).take a).flatMap (grow n) ++ grow n j := by
          rw [List.take_succ, hj, List.flatMap_append]
          simp
        refine for_it (walk_range (lo := (lastD j : Int) + 1) (n := n - (lastD j + 1))) (fun c σ' H' => ∃ (v2 : Option V), σ' = [some (.int (n : Int)), some (.ref sp2), v2, some (.ref lp), some (.int (0 + (i : Int))), some (.ref lg), some (.ref ps[a])] ∧ LevelAt H' lg (((levA n i).take a).flatMap (grow n) ++ (grow n j).take c) ∧ Same H5 H')
          ⟨_, rfl, by rw [List.take_zero, List.append_nil]; exact Lg, S6⟩ (fun _ _ _ _ _ => trivial) ?_ ?_
        · rintro c x σ' H8 H9 hc ⟨v2, rfl, Lg8, S8⟩ ⟨rfl, hx⟩
          have hx : x = V.int ((lastD j + 1 + c : Nat) : Int) := by
            rw [hx]
            congr 1
          subst hx
          have hj8 := S8 _ _ hjl
          have gl := gd.len
          have gk := gd.lo
          have lenj : (natV j).length = j.length := by unfold natV; rw [List.length_map]
          obtain ⟨zs, z1, z2⟩ := Lg8.len
          refine ⟨_, rfl, .inl ⟨rfl, _, SqL.of z1⟩, _, rfl, _, rfl, by show 1 ≤ sizeLine; decide, fun q1 hq1 => ?_⟩
          have n1 := same_new (o := .lst [V.int ((lastD j + 1 + c : Nat) : Int)]) hq1
          refine ⟨_, _, _, _, rfl, rfl, n1 _ _ hj8, upd_same, by rw [lenj, sizeLine_eq]; simp; omega, fun q hq => ?_⟩
          have en2 : natV j ++ [V.int ((lastD j + 1 + c : Nat) : Int)] = natV (j ++ [lastD j + 1 + c]) := by
            unfold natV
            rw [List.map_append]
            rfl
          rw [en2]
          have pl := part_len (f := grow n) (j := c) hj
          have pl : (((levA n i).take a).flatMap (grow n) ++ (grow n j).take c).length ≤ (levA n (i + 1)).length := pl
          obtain ⟨acc, a1, a2, a3⟩ := (Lg8.same n1).push (j := j ++ [lastD j + 1 + c]) (by simp) hq (by omega)
          refine ⟨lg, acc, _, rfl, rfl, a1, a2, _, rfl, ?_, fun b o e => ?_⟩
          · have er : (grow n j)[c]? = some (j ++ [lastD j + 1 + c]) := by
              unfold grow
              rw [List.getElem?_map, List.getElem?_range' hc]
              show some (j ++ [_]) = _
              congr 3
              omega
            rw [List.take_succ, er, ← List.append_assoc]
            exact a3
          · have e8 := S8 _ _ e
            rw [upd_ne (ne_of_none e hlg), upd_ne (ne_of_none (n1 _ _ e8) hq)]
            exact n1 _ _ e8
        · rintro σ' H8 ⟨v2, rfl, Lg8, S8⟩
          refine ⟨_, _, rfl, ?_, S8⟩
          rw [et]
          rw [List.take_of_length_le (l := grow n j) (by unfold grow; rw [List.length_map, List.length_range']; omega)] at Lg8
          exact Lg8
      · rintro σ' H6 ⟨v2, v6, rfl, Lg, S6⟩
        rw [List.length_map, p2, List.take_length] at Lg
        refine ⟨_, rfl, sp2, lg, _, _, _, _, rfl, nsp2, ?_, Lg, same_tr S2 S6⟩
        rw [List.range_succ, List.flatMap_append]
        simpa using Ls2.same S6
    · rintro σ' H3 ⟨sp, lp, v2, v4, v5, v6, rfl, nsp, Ls, Ll, S⟩
      exact ⟨_, rfl, k sp H3 nsp S Ls⟩
end
end Law

namespace Law
open PySem PySem.Spec PyProof.Rows L2 Sup
/-- the law's own joins: tuples of length and names -/
def FoundL (H0 H : Hp) (p : Addr) (js : List (List Str × Int)) : Prop := ∃ ts : List Addr, H p = some (.lst (ts.map V.ref)) ∧ ts.length = js.length ∧
  ∀ (i : Nat) (t : Addr) (ns : List Str) (L : Int), ts[i]? = some t → js[i]? = some (ns, L) → ∃ nl, nl ≠ p ∧ H0 nl = none ∧ H t = some (.tup [.int L, .ref nl]) ∧ H nl = some (.lst (ns.map V.str))
theorem FoundL.same {H0 H H' : Hp} {p : Addr} {js : List (List Str × Int)} (h : FoundL H0 H p js) (s : Same H H') : FoundL H0 H' p js := by
  obtain ⟨ts, h1, h2, h3⟩ := h
  refine ⟨ts, s _ _ h1, h2, fun i t ns L e1 e2 => ?_⟩
  obtain ⟨nl, n, n0, a, b⟩ := h3 i t ns L e1 e2
  exact ⟨nl, n, n0, s _ _ a, s _ _ b⟩
theorem FoundL.push {H0 H : Hp} {p t nl : Addr} {js : List (List Str × Int)} {ns : List Str} {L : Int} {xs : List V} (h : FoundL H0 H p js) (hx : H p = some (.lst xs)) (ht : H t = some (.tup [.int L, .ref nl])) (hn : H nl = some (.lst (ns.map V.str))) (np : nl ≠ p) (n0 : H0 nl = none) : FoundL H0 (upd H p (.lst (xs ++ [.ref t]))) p (js ++ [(ns, L)]) := by
  obtain ⟨ts, h1, h2, h3⟩ := h
  rw [hx] at h1
  cases h1
  have old : ∀ {c : Addr} {ys : List V}, H c = some (.tup ys) → c ≠ p := fun {c ys} e z => by rw [z, hx] at e; cases e
  refine ⟨ts ++ [t], by rw [upd_same, List.map_append]; rfl, by simp [h2], fun i t' ns' L' e1 e2 => ?_⟩
  by_cases hi : i < ts.length
  · rw [List.getElem?_append_left hi] at e1
    rw [List.getElem?_append_left (by omega)] at e2
    obtain ⟨nl', n, m0, a, b⟩ := h3 i t' ns' L' e1 e2
    exact ⟨nl', n, m0, by rw [upd_ne (old a)]; exact a, by rw [upd_ne n]; exact b⟩
  · rw [List.getElem?_append_right (by omega)] at e1 e2
    have ei : i - ts.length = 0 := by
      have := (List.getElem?_eq_some_iff.mp e1).1
      simp at this
      omega
    have ej : i - js.length = 0 := by omega
    rw [ei] at e1
    rw [ej] at e2
    cases e1
    cases e2
    exact ⟨nl, np, n0, by rw [upd_ne (old ht)]; exact ht, by rw [upd_ne np]; exact hn⟩
theorem FoundL.len {H0 H : Hp} {p : Addr} {js : List (List Str × Int)} (h : FoundL H0 H p js) : ∃ xs, H p = some (.lst xs) ∧ xs.length = js.length := by
  obtain ⟨ts, h1, h2, _⟩ := h
  exact ⟨_, h1, by rw [List.length_map]; exact h2⟩
/-- the choices that the law takes -/
def takes (ls : List Int) (m : Int) (j : List Nat) : Bool := decide ((j.length : Int) ≤ m) && (decide (j.length ≤ 1) || allok ls j)
theorem levP_sel (ls : List Int) (m : Int) (k : Nat) : (levA ls.length k).filter (takes ls m) = if k < m.toNat then levP ls k else [] := by
  have e : ∀ j ∈ levA ls.length k, takes ls m j = (decide (k < m.toNat) && (decide (k = 0) || allok ls j)) := fun j hj => by
    have g := (good_lev _ _ hj).len
    unfold takes
    rw [g]
    congr 1
    · exact decide_eq_decide.mpr (by omega)
    · congr 1
      exact decide_eq_decide.mpr (by omega)
  rw [List.filter_congr e]
  by_cases c : k < m.toNat
  · rw [if_pos c, decide_eq_true c]
    simp only [Bool.true_and]
    cases k with
    | zero => exact List.filter_eq_self.mpr fun _ _ => rfl
    | succ k =>
      rw [levP_eq]
      refine List.filter_congr fun j _ => ?_
      simp
  · rw [if_neg c, decide_eq_false c]
    simp
theorem flatMap_filter' {α β : Type} (p : β → Bool) (f : α → List β) : ∀ l : List α, (l.flatMap f).filter p = l.flatMap fun a => (f a).filter p
  | [] => rfl
  | a :: l => by rw [List.flatMap_cons, List.filter_append, flatMap_filter' p f l, List.flatMap_cons]
theorem sets_sel (ls : List Int) (m : Int) : (setsA ls.length).filter (takes ls m) = joinsP ls m.toNat := by
  unfold setsA
  rw [flatMap_filter']
  have key : ∀ i, ((List.range i).flatMap fun k => (levA ls.length k).filter (takes ls m)) = joinsP ls (min i m.toNat) := fun i => by
    induction i with
    | zero => simp [joinsP]
    | succ i ih =>
      rw [List.range_succ, List.flatMap_append, ih, List.flatMap_cons, List.flatMap_nil, List.append_nil, levP_sel]
      by_cases c : i < m.toNat
      · rw [if_pos c, show min i m.toNat = i by omega, show min (i + 1) m.toNat = i + 1 by omega, joinsP_succ]
      · rw [if_neg c, List.append_nil]
        congr 1
        omega
  rw [key]
  by_cases c : m.toNat ≤ ls.length
  · congr 1
    omega
  · rw [show min ls.length m.toNat = ls.length by omega, show m.toNat = ls.length + (m.toNat - ls.length) by omega]
    exact (joinsP_more (levP_empty (Nat.le_refl _)) _).symm
structure GTxt (mg : Str → Option Value) (fSe : Addr) : Prop where
  sets : mg "_law_sets" = some (.ref fSe)
  b_len : mg "len" = none
  b_min : mg "min" = none
  b_sum : mg "sum" = none
def spLjs : Sp := fun vs H Q _ => ∃ (rl : Addr) (rows : List Row) (m : Int), vs = [.ref rl, .int m] ∧ RowsAt H rl rows ∧ rows.length ≤ 8 ∧
  ∀ (p : Addr) (H' : Hp), H p = none → Same H H' → FoundL H H' p (allJ rows m) → Q (.ref p) H'
section
variable {P : Program} {w : World} {K : PySem.W.Frag} {mg : Str → Option Value} {base : Heap}
theorem scLjs : FnScope ["_law_rows", "_law_count", "_law_joins_here", "_law_choice", "_law_lengths", "_law_k"] ["_law_rows", "_law_count"] (defScope sLjs) := ⟨rfl, rfl, rfl, by decide +kernel, rfl, by decide +kernel, by decide +kernel⟩
set_option maxHeartbeats 0 in
theorem ok_ljs {f fSe : Addr} {fd fdSe : FuncData} (F : Fun K "_law_joins" "_law_joins" sLjs f fd) (T : GTxt mg fSe) (GSe : FnOk P w K mg base CX0 1 fSe fdSe ["_law_many"] spSets) (FSe : Fun K "_law_sets" "_law_sets" sSets fSe fdSe) (bSe : Binds K fdSe ["_law_many"] []) : FnOk P w K mg base CX0 2 f fd ["_law_rows", "_law_count"] spLjs := by
  refine F.ok scLjs (fun vs H Q E h => ?_) (fun cdv A outer s H vs Q E hr h => ?_)
  · obtain ⟨rl, rows, m, rfl, _⟩ := h
    rfl
  · obtain ⟨rl, rows, m, rfl, R, n8, k⟩ := h
    have hr1 : Room 1 _ := hr.mono (by decide)
    refine ⟨_, (pss_cons (ps_set (i := 2) scLjs.nd rfl (Or.inl rfl) (pe_lst pa_nil))
      (pss_cons (ps_for PassesOwn.never rfl (pi_list (pe_call GSe hr1 rfl T.sets FSe.kp bSe .nil pass0 (pa_cons (pe_callB call_len_seq (by rfl) T.b_len PySem.boot_len (pa_cons (pv 0) pa_nil)) pa_nil))) (pg_name (i := 3) scLjs.nd rfl (Or.inl rfl)) (pss_cons (ps_setLc (i := 4) (own := [("_law_k", 5)]) (g := gName 5) (tt := tYes) (te := tOp (rIxT K) (tOp (rIxL K) (tVar 0) (tVar 5)) (tC (.int 1))) (by rfl) scLjs.nd rfl rfl (sw_true rfl rfl rfl (by decide +kernel)) (pi_list (pv 3)) (blkOk_by (own := [("_law_k", 5)]) (N := ["_law_rows", "_law_count", "_law_joins_here", "_law_choice", "_law_lengths", "_law_k"]) (sc := defScope sLjs) (by decide +kernel)) (fun _ _ _ _ _ => pg_name (i := 5) scLjs.nd rfl (Or.inl rfl)) (fun _ _ _ _ _ => pts_nil) (fun _ _ _ _ _ => by exact (pe_ix (r := rIxT K) ix_tup (pe_ix (r := rIxL K) ix_list (pv 0) (pv 5) (fun _ _ => rfl)) pe_int (fun _ _ => rfl))))
      (C8.pss_cut (ps_if (PW.pt (pw_or (pt_cmpR op_gt (pe_callB call_len_seq (by rfl) T.b_len PySem.boot_len (pa_cons (pv 3) pa_nil)) (pv 1) (nomark _)) (pw_or1 (PW.pt (pw_and (pt_cmpR op_gt (pe_callB call_len_seq (by rfl) T.b_len PySem.boot_len (pa_cons (pv 3) pa_nil)) pe_int (nomark _)) (pw_and1 (pt_cmpR op_lt (pe_callB (cr_min rfl) (by rfl) T.b_min (by decide +kernel) (pa_cons (pe_op op_cat (pv 4) (pe_lst (pa_cons pe_int pa_nil))) pa_nil)) pe_int (nomark _)))))))) (pss_one ps_continue) pss_nil)
      (pss_one (ps_expr (pe_bm PySem.F.plainAttrs_list PySem.F.slot_list_append PySem.F.type_list_append mt_append (pv 2) (pa_cons (pe_tup (pa_cons (pe_op op_add (pe_op op_sub (pe_callB (cr_sum rfl) (by rfl) T.b_sum (by decide +kernel) (pa_cons (pv 4) pa_nil)) (pe_callB call_len_seq (by rfl) T.b_len PySem.boot_len (pa_cons (pv 3) pa_nil))) pe_int) (pa_cons (pe_lc (own := [("_law_k", 5)]) (g := gName 5) (tt := tYes) (te := tOp (rIxT K) (tOp (rIxL K) (tVar 0) (tVar 5)) (tC (.int 0))) (by rfl) scLjs.nd (pi_list (pv 3)) (blkOk_by (own := [("_law_k", 5)]) (N := ["_law_rows", "_law_count", "_law_joins_here", "_law_choice", "_law_lengths", "_law_k"]) (sc := defScope sLjs) (by decide +kernel)) (fun _ _ _ _ _ => pg_name (i := 5) scLjs.nd rfl (Or.inl rfl)) (fun _ _ _ _ _ => pts_nil) (fun _ _ _ _ _ => by exact (pe_ix (r := rIxT K) ix_tup (pe_ix (r := rIxL K) ix_list (pv 0) (pv 5) (fun _ _ => rfl)) pe_int (fun _ _ => rfl)))) pa_nil))) pa_nil)))))))
      (pss_one (ps_ret (pv 2))))), ?_⟩
    have l8 : (lens rows).length = rows.length := List.length_map _
    refine ⟨by show 0 ≤ sizeLine; decide, fun jp hjp => ?_⟩
    have S1 := same_new (o := .lst []) hjp
    have F1 : FoundL H (upd H jp (.lst [])) jp [] := ⟨[], upd_same, rfl, fun i t ns L e => by cases e⟩
    generalize upd H jp (.lst []) = H1 at S1 F1
    obtain ⟨xs, hxs, hxl⟩ := (R.same S1).len
    refine ⟨_, rfl, rl, xs, rfl, .inl (SqL.of hxs), rows.length, by rw [hxl]; rfl, n8, fun sp H2 nsp S2 Ls => ?_⟩
    have S12 := same_tr S1 S2
    have nsj : sp ≠ jp := by
      obtain ⟨_, z, _⟩ := F1
      exact Ne.symm (ne_of_none z nsp)
    obtain ⟨ps, p1, p2, p3⟩ := id Ls
    have z70 := setsP_len n8 rows.length (Nat.le_refl _)
    have z70 : (setsA rows.length).length ≤ 70 * rows.length := z70
    refine ⟨sp, rfl, ⟨_, SqL.of p1⟩, for_it (walk_list (xs := ps.map V.ref)) (fun i σ' H' => ∃ v3 v4 : Option V, σ' = [some (.ref rl), some (.int m), some (.ref jp), v3, v4, none] ∧ FoundL H H' jp ((((setsA rows.length).take i).filter (takes (lens rows) m)).map (jrow rows)) ∧ H' sp = some (.lst (ps.map V.ref)) ∧ Same H H' ∧ LevelAt H' sp (setsA rows.length))
      ⟨_, _, rfl, F1.same S2, p1, S12, Ls⟩ (fun i σ' H' _ h => by obtain ⟨_, _, _, _, z, _⟩ := h; exact SqL.of z) ?_ ?_⟩
    · rintro i x σ' H3 H4 hi ⟨v3, v4, rfl, Fo, p4, S4, L4⟩ ⟨rfl, hx⟩
      rw [List.length_map] at hi
      rw [List.getElem?_map, List.getElem?_eq_getElem hi] at hx
      cases hx
      obtain ⟨j, hj⟩ : ∃ j, (setsA rows.length)[i]? = some j := ⟨_, List.getElem?_eq_getElem (by omega)⟩
      obtain ⟨xs4, a4, q1, q2, q3⟩ := L4.at hj
      rw [p4] at q1
      cases q1
      rw [List.getElem?_map, List.getElem?_eq_getElem hi] at q2
      cases q2
      obtain ⟨kk, hk1, hk2⟩ := List.mem_flatMap.mp (List.mem_of_getElem? hj)
      have hk1 := List.mem_range.mp hk1
      have g := good_lev _ _ hk2
      have glen := g.len
      have enl : (natV j).length = j.length := by unfold natV; rw [List.length_map]
      have R4 := R.same S4
      -- a column of the rows
      have col : ∀ {H' : Hp} {a : Nat}, Same H4 H' → a < rows.length → ∃ xs t, H' rl = some (.lst xs) ∧ atI xs (a : Int) = some (.ref t) ∧ H' t = some (.tup [.str (nameAt rows a), .int ((lens rows).getD a 0)]) := fun {H' a} s ha => by
        obtain ⟨L, l1, l2⟩ := row_at ha
        obtain ⟨ys, t, y1, y2, y3⟩ := (R4.same s).at l1
        rw [l2]
        exact ⟨ys, t, y1, at_nat y2, y3⟩
      -- lengths
      refine ⟨_, rfl, ps[i], rfl, ⟨_, SqL.of q3⟩, fun D hD => ?_⟩
      refine lc_it (walk_list (xs := natV j)) (LcP D H4 fun t => j[t]?.bind fun a => some (V.int ((lens rows).getD a 0))) (LcP.start hD) (fun _ _ _ h => SqL.of (h.2 _ _ q3)) ?_ ?_
      · rintro t x H7 H8 ht p ⟨rfl, hx⟩
        have ht' : t < j.length := by omega
        unfold natV at hx
        rw [List.getElem?_map, List.getElem?_eq_getElem ht'] at hx
        cases hx
        obtain ⟨ys, t', y1, y2, y3⟩ := col p.2 (g.lt j[t] (List.getElem_mem ht'))
        exact ⟨rfl, _, rfl, _, rfl, rl, _, _, _, rfl, rfl, SqL.of y1, y2, t', _, _, _, rfl, rfl, SqT.of y3, rfl, p.push hD same_rfl (by rw [List.getElem?_eq_getElem ht']; rfl) (by omega)⟩
      rintro H5 ⟨g5, s5⟩
      rw [enl, range_fm] at g5
      have ens : (j.filterMap fun a => some (V.int ((lens rows).getD a 0))) = (j.map fun a => (lens rows).getD a 0).map V.int := by
        rw [List.map_map]
        exact congrFun (List.filterMap_eq_map (f := fun a => V.int ((lens rows).getD a 0))) j
      rw [ens] at g5
      have q5 := s5 _ _ q3
      have et : ((setsA rows.length).take (i + 1)).filter (takes (lens rows) m) = ((setsA rows.length).take i).filter (takes (lens rows) m) ++ (if takes (lens rows) m j = true then [j] else []) := by
        rw [List.take_succ, hj, Option.toList_some, List.filter_append, List.filter_cons]
        rfl
      have skip : ∀ {H'}, Same H5 H' → takes (lens rows) m j = false → FoundL H H' jp ((((setsA rows.length).take (i + 1)).filter (takes (lens rows) m)).map (jrow rows)) := fun {H'} s c => by
        rw [et, c, if_neg (by decide), List.append_nil]
        exact (Fo.same s5).same s
      have keep : ∀ {H'}, Same H5 H' → H' sp = some (.lst (ps.map V.ref)) ∧ Same H H' ∧ LevelAt H' sp (setsA rows.length) := fun {H'} s => ⟨s _ _ (s5 _ _ p4), same_tr (same_tr S4 s5) s, (L4.same s5).same s⟩
      refine ⟨fun σ'' H'' => σ'' = [some (.ref rl), some (.int m), some (.ref jp), some (.ref ps[i]), some (.ref D), none] ∧ Same H5 H'' ∧ takes (lens rows) m j = true, ?_, ?_⟩
      · refine ⟨_, rfl, ps[i], _, rfl, .inl (SqL.of q5), _, rfl, _, _, rfl, rfl, _, rfl, ?_⟩
        rw [enl]
        by_cases c1 : (j.length : Int) > m
        · refine if_t (decide_eq_true c1) ⟨_, _, rfl, skip same_rfl ?_, keep same_rfl⟩
          unfold takes
          rw [decide_eq_false (by omega), Bool.false_and]
        refine if_f (decide_eq_false c1) ⟨_, rfl, ps[i], _, rfl, .inl (SqL.of q5), _, _, rfl, rfl, _, rfl, ?_⟩
        rw [enl]
        have c1' : decide ((j.length : Int) ≤ m) = true := decide_eq_true (by omega)
        by_cases c2 : (j.length : Int) > 1
        · refine if_t (decide_eq_true c2) ⟨_, rfl, by show 1 ≤ sizeLine; decide, fun q1 hq1 => ?_⟩
          have n1 := same_new (o := .lst [V.int 2]) hq1
          refine ⟨D, q1, _, _, rfl, rfl, n1 _ _ g5, upd_same, by rw [List.length_map, List.length_map, sizeLine_eq]; simp; omega, fun q2 hq2 => ?_⟩
          have n2 := same_tr n1 (same_new (o := .lst ((j.map fun a => (lens rows).getD a 0).map V.int ++ [V.int 2])) hq2)
          refine ⟨q2, (j.map fun a => (lens rows).getD a 0) ++ [2], rfl, SqL.of (by rw [upd_same, List.map_append]; rfl), by simp, fun mm hm hle => ⟨_, _, rfl, rfl, _, rfl, ?_⟩⟩
          have c2' : decide (j.length ≤ 1) = false := decide_eq_false (by omega)
          by_cases c3 : mm < 2
          · refine if_t (decide_eq_true c3) ⟨_, _, rfl, skip n2 ?_, keep n2⟩
            unfold takes
            rw [c1', c2', Bool.true_and, Bool.false_or]
            refine Bool.eq_false_iff.mpr fun z => ?_
            rcases List.mem_append.mp hm with h | h
            · obtain ⟨a, ha, e⟩ := List.mem_map.mp h
              have w := of_decide_eq_true (List.all_eq_true.mp z a ha)
              rw [e] at w
              omega
            · rw [List.mem_singleton] at h
              omega
          · refine if_f (decide_eq_false c3) ⟨rfl, n2, ?_⟩
            unfold takes
            rw [c1', c2', Bool.true_and, Bool.false_or]
            refine List.all_eq_true.mpr fun a ha => decide_eq_true ?_
            have := hle _ (List.mem_append_left _ (List.mem_map.mpr ⟨a, ha, rfl⟩))
            omega
        · refine if_f (decide_eq_false c2) (if_f rfl ⟨rfl, same_rfl, ?_⟩)
          unfold takes
          rw [c1', decide_eq_true (show j.length ≤ 1 by omega)]
          rfl
      rintro _ H6 ⟨rfl, s6, htk⟩
      have s46 := same_tr s5 s6
      obtain ⟨ts0, z1, z2, _⟩ := Fo.same s46
      have q6 := s6 _ _ q5
      refine ⟨_, rfl, .inl ⟨rfl, _, SqL.of z1⟩, _, rfl, D, _, rfl, SqL.of (s6 _ _ g5), _, rfl, ps[i], _, rfl, .inl (SqL.of q6), _, _, rfl, rfl, _, _, rfl, rfl, _, rfl, ps[i], rfl, ⟨_, SqL.of q6⟩, fun D2 hD2 => ?_⟩
      refine lc_it (walk_list (xs := natV j)) (LcP D2 H6 fun t => j[t]?.bind fun a => some (V.str (nameAt rows a))) (LcP.start hD2) (fun _ _ _ h => SqL.of (h.2 _ _ q6)) ?_ ?_
      · rintro t x H7 H8 ht p ⟨rfl, hx⟩
        have ht' : t < j.length := by omega
        unfold natV at hx
        rw [List.getElem?_map, List.getElem?_eq_getElem ht'] at hx
        cases hx
        obtain ⟨ys, t', y1, y2, y3⟩ := col (same_tr s46 p.2) (g.lt j[t] (List.getElem_mem ht'))
        exact ⟨rfl, _, rfl, _, rfl, rl, _, _, _, rfl, rfl, SqL.of y1, y2, t', _, _, _, rfl, rfl, SqT.of y3, rfl, p.push hD2 same_rfl (by rw [List.getElem?_eq_getElem ht']; rfl) (by omega)⟩
      rintro H7 ⟨g7, s7⟩
      rw [enl, range_fm] at g7
      have ens : (j.filterMap fun a => some (V.str (nameAt rows a))) = (j.map (nameAt rows)).map V.str := by
        rw [List.map_map]
        exact congrFun (List.filterMap_eq_map (f := fun a => V.str (nameAt rows a))) j
      rw [ens] at g7
      rw [enl]
      refine ⟨by show 2 ≤ sizeLine; decide, fun t ht => ?_⟩
      have st := same_new (o := .tup [V.int ((j.map fun a => (lens rows).getD a 0).sum - (j.length : Int) + 1), V.ref D2]) ht
      have s67 := same_tr s7 st
      have zl : (ts0.map V.ref).length ≤ 1000 := by
        rw [List.length_map]
        have := List.length_filter_le (takes (lens rows) m) ((setsA rows.length).take i)
        have := List.length_take_le i (setsA rows.length)
        rw [List.length_map] at z2
        omega
      have z1' := s67 _ _ z1
      have njs : D2 ≠ jp := Ne.symm (ne_of_none z1 hD2)
      have ejl : (j.map fun a => (lens rows).getD a 0).sum - (j.length : Int) + 1 = joinLen (j.map fun a => (lens rows).getD a 0) := by
        unfold joinLen
        rw [if_neg (fun z => by have z0 := congrArg List.length z; rw [List.length_map] at z0; have z0 : j.length = 0 := z0; omega), List.length_map]
        omega
      refine ⟨jp, (ts0.map V.ref), _, rfl, rfl, z1', small1000 zl, _, _, rfl, ?_, ?_, fun b o e => ?_, ?_⟩
      · have z := ((Fo.same s46).same s67).push z1' upd_same (st _ _ g7) njs (none_back (same_tr S4 s46) hD2)
        rw [et, if_pos htk, List.map_append]
        have ej : jrow rows j = (j.map (nameAt rows), (j.map fun a => (lens rows).getD a 0).sum - (j.length : Int) + 1) := by
          rw [ejl]
          rfl
        show FoundL _ _ _ (_ ++ [jrow rows j])
        rw [ej]
        exact z
      · rw [upd_ne nsj]
        exact (same_tr s46 s67) _ _ p4
      · rw [upd_ne (ne_of_none e hjp)]
        exact (same_tr (same_tr S4 s46) s67) _ _ e
      · exact ((L4.same s46).same s67).other z1' nsj
    · rintro σ' H3 ⟨v3, v4, rfl, Fo, p4, S4, L4⟩
      rw [List.length_map, p2, List.take_length] at Fo
      refine ⟨_, rfl, k jp H3 hjp S4 ?_⟩
      have e := sets_sel (lens rows) m
      rw [l8] at e
      rw [e] at Fo
      exact Fo
end
end Law

namespace Law
open PySem PySem.Spec PyProof.Rows L2 Sup
/-! ints as data -/
theorem dp_ints {K : PySem.W.Frag} {H : Hp} : ∀ ns : List Int, DpAll K H (ns.map V.int) (ns.map PyData.int)
  | [] => .nil
  | _ :: ns => .cons (.int _) (dp_ints ns)
theorem shaped_int (n : Int) : SeqAt.shaped (.int n) = true := by
  unfold SeqAt.shaped
  rw [int_ok n]
  simp [PyData.depth]
theorem ok_ints : ∀ ns : List Int, PyData.canLayAll0 (ns.map PyData.int) = true
  | [] => by simp only [List.map_nil, PyData.canLayAll0]
  | n :: ns => by
    rw [List.map_cons]
    simp only [PyData.canLayAll0]
    rw [Bool.and_eq_true]
    exact ⟨int_ok n, ok_ints ns⟩
theorem deep_ints : ∀ ns : List Int, PyData.depthAll (ns.map PyData.int) = 0
  | [] => by simp [PyData.depthAll]
  | n :: ns => by
    rw [List.map_cons]
    simp [PyData.depthAll, PyData.depth, deep_ints ns]
theorem shaped_ints (ns : List Int) : SeqAt.shaped (.list (ns.map PyData.int)) = true := by
  unfold SeqAt.shaped
  have e : PyData.canLay0 (.list (ns.map PyData.int)) = true := by
    simp only [PyData.canLay0]
    exact ok_ints ns
  rw [e]
  simp [PyData.depth, deep_ints]
theorem any_ints (ns : List Int) (n : Int) : ((ns.map PyData.int).any fun z => PyData.eqv z (.int n)) = ns.contains n := by
  induction ns with
  | nil => rfl
  | cons x ns ih =>
    rw [List.map_cons, List.any_cons, ih, List.contains_cons]
    have e : PyData.eqv (.int x) (.int n) = (n == x) := by
      simp only [PyData.eqv]
      by_cases h : x = n
      · subst h
        simp
      · have h2 : (n == x) = false := by simpa using fun z => h z.symm
        rw [h2]
        simp [h]
    rw [e]
def ascOf (js : List (List Str × Int)) (ns : List Int) : Prop := ns.Perm (uniq [] (js.map (·.2))) ∧ ns.Pairwise (· ≤ ·)
def spAsc : Sp := fun vs H Q _ => ∃ (H0 : Hp) (jp : Addr) (js : List (List Str × Int)), vs = [.ref jp] ∧ FoundL H0 H jp js ∧ js.length ≤ 700 ∧ ∀ (p : Addr) (H' : Hp) (ns : List Int), H p = none → Same H H' → ascOf js ns → H' p = some (.lst (ns.map V.int)) → Q (.ref p) H'
def spFst : Sp := fun vs H Q _ => ∃ (H0 : Hp) (jp : Addr) (js : List (List Str × Int)) (L : Int), vs = [.ref jp, .int L] ∧ FoundL H0 H jp js ∧ ∀ (p : Addr) (H' : Hp), Same H H' → H' p = some (.lst ((firstOf js L).map V.str)) → Q (.ref p) H'
def spNbs : Sp := fun vs H Q _ => ∃ (a b : Addr) (ns : List Int), vs = [.ref a, .ref b] ∧ H a = some (.lst (ns.map V.int)) ∧ H b = some (.lst (ns.map V.int)) ∧ ns.length ≤ 1000 ∧ Q (.bl true) H
structure NbTxt (mg : Str → Option Value) : Prop where
  b_isinstance : mg "isinstance" = none
  b_int : mg "int" = none
  b_bool : mg "bool" = none
  b_list : mg "list" = none
  b_len : mg "len" = none
  b_range : mg "range" = none
section
variable {P : Program} {w : World} {K : PySem.W.Frag} {mg : Str → Option Value} {base : Heap}
theorem scNbs : FnScope ["_law_row", "_law_due", "_law_k"] ["_law_row", "_law_due"] (defScope sNbs) := ⟨rfl, rfl, rfl, by decide +kernel, rfl, by decide +kernel, by decide +kernel⟩
set_option maxHeartbeats 0 in
theorem ok_nbs {f : Addr} {fd : FuncData} (F : Fun K "_law_numbers" "_law_numbers" sNbs f fd) (T : NbTxt mg) : FnOk P w K mg base CX0 1 f fd ["_law_row", "_law_due"] spNbs := by
  refine F.ok scNbs (fun vs H Q E h => ?_) (fun cdv A outer s H vs Q E hr h => ?_)
  · obtain ⟨a, b, ns, rfl, _⟩ := h
    rfl
  · obtain ⟨a, b, ns, rfl, ha, hb, hl, k⟩ := h
    refine ⟨_, (pss_cons (ps_if (PW.pt (pw_or (pt_not (pt_val (pe_callB call_isi (by rfl) T.b_isinstance (by decide +kernel) (pa_cons (pv 0) (pa_cons (pe_bltn (v := .ty "list") (by rfl) T.b_list (by decide +kernel) rfl) pa_nil))))) (pw_or1 (pt_cmpR op_ne (pe_callB call_len_seq (by rfl) T.b_len PySem.boot_len (pa_cons (pv 0) pa_nil)) (pe_callB call_len_seq (by rfl) T.b_len PySem.boot_len (pa_cons (pv 1) pa_nil)) (nomark _))))) (pss_one (ps_ret pe_bl)) pss_nil)
      (pss_cons (ps_for PassesOwn.never rfl (pi_range1 (by rfl) T.b_range (pa_cons (pe_callB call_len_seq (by rfl) T.b_len PySem.boot_len (pa_cons (pv 1) pa_nil)) pa_nil)) (pg_name (i := 2) scNbs.nd rfl (Or.inl rfl)) (pss_one (ps_if (PW.pt (pw_or (pt_not (pt_val (pe_callB call_isi (by rfl) T.b_isinstance (by decide +kernel) (pa_cons (pe_ix ix_list (pv 0) (pv 2) (fun _ _ => rfl)) (pa_cons (pe_bltn (v := .ty "int") (by rfl) T.b_int (by decide +kernel) rfl) pa_nil))))) (pw_or (pt_val (pe_callB call_isi (by rfl) T.b_isinstance (by decide +kernel) (pa_cons (pe_ix ix_list (pv 0) (pv 2) (fun _ _ => rfl)) (pa_cons (pe_bltn (v := .ty "bool") (by rfl) T.b_bool (by decide +kernel) rfl) pa_nil)))) (pw_or1 (pt_cmpR op_ne (pe_ix ix_list (pv 0) (pv 2) (fun _ _ => rfl)) (pe_ix ix_list (pv 1) (pv 2) (fun _ _ => rfl)) (nomark _)))))) (pss_one (ps_ret pe_bl)) pss_nil)))
      (pss_one (ps_ret pe_bl)))), ?_⟩
    have la : (ns.map V.int).length = ns.length := List.length_map _
    refine ⟨_, rfl, V.ref a, .ty "list", .type "list", .type "list", true, rfl, .ty _, .base (.lst ha), by rfl, true, rfl, if_f rfl ?_⟩
    refine ⟨_, rfl, a, _, rfl, .inl (SqL.of ha), _, rfl, b, _, rfl, .inl (SqL.of hb), rfl, _, rfl, if_f (by simp) ?_⟩
    refine ⟨_, rfl, b, _, rfl, .inl (SqL.of hb), _, rfl, by omega, by omega, ?_⟩
    rw [la]
    refine for_it (walk_range (lo := 0) (n := ns.length)) (fun i σ' H' => ∃ v2, σ' = [some (.ref a), some (.ref b), v2] ∧ H' = H) ⟨_, rfl, rfl⟩ (fun _ _ _ _ _ => trivial) ?_ ?_
    · rintro i x σ' H1 H2 hi ⟨v2, rfl, rfl⟩ ⟨rfl, rfl⟩
      have e : atI (ns.map V.int) ((0 : Int) + (i : Int)) = some (.int ns[i]) := by
        rw [Int.zero_add]
        exact at_nat (by rw [List.getElem?_map, List.getElem?_eq_getElem hi]; rfl)
      refine ⟨_, rfl, _, rfl, a, _, _, _, rfl, rfl, SqL.of ha, e, V.int ns[i], .ty "int", .type "int", .type "int", true, rfl, .ty _, .base (.int _), by rfl, true, rfl, if_f rfl ?_⟩
      refine ⟨_, rfl, _, rfl, a, _, _, _, rfl, rfl, SqL.of ha, e, V.int ns[i], .ty "bool", .type "int", .type "bool", false, rfl, .ty _, .base (.int _), by rfl, false, rfl, if_f rfl ?_⟩
      exact ⟨_, rfl, _, rfl, a, _, _, _, rfl, rfl, SqL.of ha, e, _, rfl, _, rfl, b, _, _, _, rfl, rfl, SqL.of hb, e, rfl, _, rfl, if_f (by simp) ⟨_, rfl, rfl⟩⟩
    · rintro σ' H1 ⟨v2, rfl, rfl⟩
      exact k
theorem scAsc : FnScope ["_law_joins_here", "_law_lengths", "_law_length", "_law_names"] ["_law_joins_here"] (defScope sAsc) := ⟨rfl, rfl, rfl, by decide +kernel, rfl, by decide +kernel, by decide +kernel⟩
theorem scFst : FnScope ["_law_joins_here", "_law_length", "_law_known", "_law_names"] ["_law_joins_here", "_law_length"] (defScope sFst) := ⟨rfl, rfl, rfl, by decide +kernel, rfl, by decide +kernel, by decide +kernel⟩
set_option maxHeartbeats 0 in
theorem ok_asc {f : Addr} {fd : FuncData} (F : Fun K "_law_ascending" "_law_ascending" sAsc f fd) (T : ETxt mg) : FnOk P w K mg base CX0 1 f fd ["_law_joins_here"] spAsc := by
  refine F.ok scAsc (fun vs H Q E h => ?_) (fun cdv A outer s H vs Q E hr h => ?_)
  · obtain ⟨H0, jp, js, rfl, _⟩ := h
    rfl
  · obtain ⟨H0, jp, js, rfl, Fd, len7, k⟩ := h
    refine ⟨_, (pss_cons (ps_set (i := 1) scAsc.nd rfl (Or.inl rfl) (pe_lst pa_nil))
      (pss_cons (ps_for PassesOwn.never rfl (pi_list (pv 0)) (pg_tup (by rfl) (pgs_cons (pg_name (i := 2) scAsc.nd rfl (Or.inl rfl)) (pgs_cons (pg_name (i := 3) scAsc.nd rfl (Or.inl rfl)) pgs_nil))) (pss_one (ps_if (pt_cmpR (op_notInD (Room.u65 hr)) (pv 2) (pv 1) rfl) (pss_one (ps_expr (pe_bm PySem.F.plainAttrs_list PySem.F.slot_list_append PySem.F.type_list_append mt_append (pv 1) (pa_cons (pv 2) pa_nil)))) pss_nil)))
      (pss_one (ps_ret (pe_callB cr_sortedI (by rfl) T.sorted (by decide +kernel) (pa_cons (pe_lc (own := [("_law_length", 2)]) (g := gName 2) (tt := tYes) (by rfl) scAsc.nd (pi_list (pv 1)) (blkOk_by (own := [("_law_length", 2)]) (N := ["_law_joins_here", "_law_lengths", "_law_length", "_law_names"]) (sc := defScope sAsc) (by decide +kernel)) (fun _ _ _ _ _ => pg_name (i := 2) scAsc.nd rfl (Or.inl rfl)) (fun _ _ _ _ _ => pts_nil) (fun _ _ _ _ _ => (pe_callTy call_int1 (by rfl) T.int (by decide +kernel) (pa_cons (pv 2) pa_nil)))) pa_nil)))))), ?_⟩
    refine ⟨by show 0 ≤ sizeLine; decide, fun D hD => ?_⟩
    have S1 := same_new (o := .lst []) hD
    obtain ⟨ts, t1, t2, t3⟩ := id Fd
    refine ⟨_, rfl, jp, rfl, ⟨_, SqL.of (S1 _ _ t1)⟩, ?_⟩
    refine for_it (walk_list (xs := ts.map V.ref)) (fun i σ' H' => ∃ (acc : List Int) (v2 v3 : Option V), σ' = [some (.ref jp), some (.ref D), v2, v3] ∧ H' D = some (.lst (acc.map V.int)) ∧ acc.length ≤ i ∧ uniq [] (js.map (·.2)) = uniq acc ((js.map (·.2)).drop i) ∧ Same H H')
      ⟨[], _, _, rfl, upd_same, Nat.le_refl _, rfl, S1⟩ (fun i σ' H' _ h => by obtain ⟨_, _, _, _, _, _, _, z⟩ := h; exact SqL.of (z _ _ t1)) ?_ ?_
    · rintro i x σ' H2 H3 hi ⟨acc, v2, v3, rfl, a1, a2, a3, S2⟩ ⟨rfl, hx⟩
      rw [List.length_map] at hi
      rw [List.getElem?_map, List.getElem?_eq_getElem hi] at hx
      cases hx
      obtain ⟨⟨ns, M⟩, hj⟩ : ∃ p, js[i]? = some p := ⟨_, List.getElem?_eq_getElem (by omega)⟩
      obtain ⟨nl, _, n0, z1, z2⟩ := t3 i _ ns M (List.getElem?_eq_getElem hi) hj
      have hm : (js.map (·.2))[i]? = some M := by rw [List.getElem?_map, hj]; rfl
      have ed : (js.map (·.2)).drop i = M :: (js.map (·.2)).drop (i + 1) := by
        have hl := (List.getElem?_eq_some_iff.mp hm).1
        rw [List.drop_eq_getElem_cons hl]
        rw [List.getElem?_eq_getElem hl] at hm
        rw [Option.some.inj hm]
      rw [ed] at a3
      refine ⟨_, _, rfl, SqT.of (S2 _ _ z1), rfl, _, _, rfl, _, _, rfl, rfl, _, rfl, _, rfl, .int M, acc.map PyData.int, .int M, .lst (SqL.of a1) (dp_ints _), shaped_int M, shaped_ints acc, _, rfl, ?_⟩
      rw [any_ints]
      by_cases c : acc.contains M = true
      · refine if_f (by rw [c]; rfl) ⟨acc, _, _, rfl, a1, by omega, ?_, S2⟩
        rw [a3]
        conv => lhs; unfold uniq
        rw [if_pos c]
      · refine if_t (by rw [Bool.eq_false_iff.mpr c]; rfl) ⟨_, rfl, .inl ⟨rfl, _, SqL.of a1⟩, _, rfl, D, _, _, rfl, rfl, a1, small1000 (by rw [List.length_map]; omega), acc ++ [M], _, _, rfl, by rw [upd_same, List.map_append]; rfl, by rw [List.length_append]; simp; omega, ?_, fun b o e => ?_⟩
        · rw [a3]
          conv => lhs; unfold uniq
          rw [if_neg c]
        · rw [upd_ne (ne_of_none e hD)]
          exact S2 _ _ e
    rintro σ' H2 ⟨acc, v2, v3, rfl, a1, a2, a3, S2⟩
    rw [List.length_map, t2] at a2 a3
    rw [List.drop_of_length_le (by rw [List.length_map]; omega)] at a3
    have a3 : uniq [] (js.map (·.2)) = acc := a3
    refine ⟨_, rfl, D, rfl, ⟨_, SqL.of a1⟩, fun D2 hD2 => ?_⟩
    refine lc_it (walk_list (xs := acc.map V.int)) (LcP D2 H2 fun i => (acc.map V.int)[i]?) (LcP.start hD2) (fun _ _ _ h => SqL.of (h.2 _ _ a1)) ?_ ?_
    · rintro i x H3 H4 hi pp ⟨rfl, hx⟩
      rw [List.length_map] at hi
      rw [List.getElem?_map, List.getElem?_eq_getElem hi] at hx
      cases hx
      exact ⟨rfl, _, rfl, .inl ⟨_, rfl, pp.push hD2 same_rfl (by rw [List.getElem?_map, List.getElem?_eq_getElem hi]; rfl) (by omega)⟩⟩
    rintro H3 ⟨g3, s3⟩
    rw [range_id] at g3
    refine ⟨D2, acc, rfl, SqL.of g3, fun ns q hp hs hq => ?_⟩
    refine k q _ ns (none_back (same_tr S2 s3) hq) (same_tr (same_tr S2 s3) (same_new hq)) ⟨by rw [a3]; exact hp, hs⟩ upd_same
set_option maxHeartbeats 0 in
theorem ok_fst {f : Addr} {fd : FuncData} (F : Fun K "_law_first" "_law_first" sFst f fd) : FnOk P w K mg base CX0 1 f fd ["_law_joins_here", "_law_length"] spFst := by
  refine F.ok scFst (fun vs H Q E h => ?_) (fun cdv A outer s H vs Q E hr h => ?_)
  · obtain ⟨H0, jp, js, L, rfl, _⟩ := h
    rfl
  · obtain ⟨H0, jp, js, L, rfl, Fd, k⟩ := h
    refine ⟨_, (pss_cons (ps_for PassesOwn.never rfl (pi_list (pv 0)) (pg_tup (by rfl) (pgs_cons (pg_name (i := 2) scFst.nd rfl (Or.inl rfl)) (pgs_cons (pg_name (i := 3) scFst.nd rfl (Or.inl rfl)) pgs_nil))) (pss_one (ps_if (pt_cmpR op_eq (pv 2) (pv 1) (nomark _)) (pss_one (ps_ret (pv 3))) pss_nil)))
      (pss_one (ps_ret (pe_lst pa_nil)))), ?_⟩
    obtain ⟨ts, t1, t2, t3⟩ := id Fd
    refine ⟨_, rfl, jp, rfl, ⟨_, SqL.of t1⟩, ?_⟩
    refine for_it (walk_list (xs := ts.map V.ref)) (fun i σ' H' => (∃ v2 v3 : Option V, σ' = [some (.ref jp), some (.int L), v2, v3]) ∧ H' = H ∧ ∀ x ∈ js.take i, ¬ x.2 = L) ⟨⟨_, _, rfl⟩, rfl, fun _ h => nomatch h⟩ (fun i σ' H' _ h => by rw [h.2.1]; exact SqL.of t1) ?_ ?_
    · rintro i x σ' H2 H3 hi ⟨⟨v2, v3, rfl⟩, rfl, hno⟩ ⟨rfl, hx⟩
      rw [List.length_map] at hi
      rw [List.getElem?_map, List.getElem?_eq_getElem hi] at hx
      cases hx
      obtain ⟨⟨ns, M⟩, hj⟩ : ∃ p, js[i]? = some p := ⟨_, List.getElem?_eq_getElem (by omega)⟩
      obtain ⟨nl, _, n0, z1, z2⟩ := t3 i _ ns M (List.getElem?_eq_getElem hi) hj
      refine ⟨_, _, rfl, SqT.of z1, rfl, _, _, rfl, _, _, rfl, rfl, _, rfl, _, rfl, rfl, _, rfl, ?_⟩
      have et : js.take (i + 1) = js.take i ++ [(ns, M)] := by
        rw [List.take_succ, hj]
        rfl
      by_cases c : M = L
      · subst c
        refine if_t (by simp) ⟨_, rfl, k nl _ same_rfl ?_⟩
        have ef : firstOf js M = ns := by
          unfold firstOf
          have e : js = js.take i ++ (ns, M) :: js.drop (i + 1) := by
            obtain ⟨hi', hx⟩ := List.getElem?_eq_some_iff.mp hj
            rw [← hx, List.getElem_cons_drop, List.take_append_drop]
          rw [e, List.find?_append, List.find?_eq_none.mpr fun x hx => by simpa using hno x hx]
          simp
        rw [ef]
        exact z2
      · refine if_f (by simp [c]) ⟨⟨_, _, rfl⟩, rfl, fun x hx => ?_⟩
        rw [et] at hx
        rcases List.mem_append.mp hx with hx | hx
        · exact hno x hx
        · rw [List.mem_singleton] at hx
          subst hx
          exact c
    · rintro σ' H2 ⟨⟨v2, v3, rfl⟩, rfl, hno⟩
      rw [List.length_map, t2, List.take_length] at hno
      refine ⟨by show 0 ≤ sizeLine; decide, fun q hq => k q _ (same_new hq) ?_⟩
      have ef : firstOf js L = [] := by
        unfold firstOf
        rw [List.find?_eq_none.mpr fun x hx => by simpa using hno x hx]
      rw [upd_same, ef]
      rfl
end
end Law

/-! o.m(e, .., k = v, ..) of an own class. -/
namespace MethN
open PySem PySem.Spec PyProof.Rows L2
def tMethN (C : Addr) (m : Str) (n mk : Nat) (sp : Sp) (gV : List V → List V → List V) (E : XK) (ta : TE) (t tk : TA) : TE := fun σ H Q => ta σ H fun x H1 => ∃ a dx fs, x = .ref a ∧ H1 a = some (.ins C dx fs) ∧ fs.lookup m = none ∧
  t σ H1 fun vs H2 => tk σ H2 fun zs H3 => vs.length = n ∧ zs.length = mk ∧ sp (gV (x :: vs) zs) H3 Q E
section
variable {X : Cx} {CX : CXT} {k n : Nat} {f C : Addr} {fd : FuncData} {ps ks : List Str} {sp : Sp} {E : XK} {m : Str} {p pos apos : Pos} {e o : Expr} {es : List Expr} {kws : List Keyword} {ta : TE} {t tk : TA} {g : List Value → List Value → List Value} {gV : List V → List V → List V}
theorem pe_methN {pl : Sem Bool} (he : PE X o ta) (c : Cls X.K C) (hm : Meth X.K C m f) (F : FnOk X.prog X.w X.K X.mg X.base CX k f fd ps sp) (hr : Room k X.A) (hb : KBn X.K fd ps (n + 1) ks g gV) (hx : Passes CX X E) (ha : PA X (e :: es) t) (hkw : PK X kws tk)
    (hall : (backToKw pos (keywordEach kws X.env)).all (·.1.isSome) = true := by rfl) (hks : (backToKw pos (keywordEach kws X.env)).filterMap (·.1) = ks := by rfl)
    (hst : starEach (e :: es) X.env = (false, eval e X.env) :: starEach es X.env := by rfl)
    (hpl : ((backTo pos (starEach (e :: es) X.env)).any (·.1) || (backToKw pos (keywordEach kws X.env)).any (·.1.isNone)) = false := by rfl)
    (ht : eval (.Call (.Attribute o m apos) (e :: es) kws pos) X.env = (do
      let ov ← eval o X.env
      standAt apos.atName
      let (f, first) ← holding [ov] (getMethod ov m pl)
      callWith pos f first (backTo pos (starEach (e :: es) X.env)) (backToKw pos (keywordEach kws X.env))) := by rfl) :
    PE X (.Call (.Attribute o m apos) (e :: es) kws pos) (tMethN C m n ks.length sp gV E ta t tk) := by
  refine ⟨fun pins s σ H Q I h => ?_⟩
  refine PySem.W.methodCall_KW (pl := pl) (thn (he.run pins s σ H _ I h) fun u s1 ⟨x, H1, I1, rx, a, dx, fs, ex, ea, l, q⟩ => ?_) ht
  subst ex
  obtain rfl : u = Value.ref a := rx
  refine getmeth_ok I1 ea c hm l ?_
  refine PySem.W.callWith_KW (first := [.ref a]) (h₀ := X.base) I.ok.mod.kin hm.kp hall (thn (ha.run pos pins s1 σ H1 _ I1 q) fun us s2 ⟨vs, H2, I2, r, q2⟩ => ?_) hpl hst
  refine thn (hkw.run pos pins s2 σ H2 _ I2 q2) fun ws s3 ⟨zs, H3, I3, rz, l1, l2, q3⟩ => ⟨I3.kIn, ?_⟩
  rw [hks]
  exact run_fnN (us := .ref a :: us) (vs := .ref a :: vs) F hr hb hx I3 (.cons rfl r) rz (congrArg Nat.succ l1) l2 q3
theorem pe_methN0 {pl : Sem Bool} (he : PE X o ta) (c : Cls X.K C) (hm : Meth X.K C m f) (F : FnOk X.prog X.w X.K X.mg X.base CX k f fd ps sp) (hr : Room k X.A) (hb : KBn X.K fd ps 1 ks g gV) (hx : Passes CX X E) (hkw : PK X kws tk)
    (hall : (backToKw pos (keywordEach kws X.env)).all (·.1.isSome) = true := by rfl) (hks : (backToKw pos (keywordEach kws X.env)).filterMap (·.1) = ks := by rfl)
    (hpl : ((backTo pos (starEach [] X.env)).any (·.1) || (backToKw pos (keywordEach kws X.env)).any (·.1.isNone)) = false := by rfl)
    (ht : eval (.Call (.Attribute o m apos) [] kws pos) X.env = (do
      let ov ← eval o X.env
      standAt apos.atName
      let (f, first) ← holding [ov] (getMethod ov m pl)
      callWith pos f first (backTo pos (starEach [] X.env)) (backToKw pos (keywordEach kws X.env))) := by rfl) :
    PE X (.Call (.Attribute o m apos) [] kws pos) (tMethN C m 0 ks.length sp gV E ta tNil tk) := by
  refine ⟨fun pins s σ H Q I h => ?_⟩
  refine PySem.W.methodCall_KW (pl := pl) (thn (he.run pins s σ H _ I h) fun u s1 ⟨x, H1, I1, rx, a, dx, fs, ex, ea, l, q⟩ => ?_) ht
  subst ex
  obtain rfl : u = Value.ref a := rx
  refine getmeth_ok I1 ea c hm l ?_
  refine PySem.W.callWith_KW0 (first := [.ref a]) (h₀ := X.base) I.ok.mod.kin hm.kp hall ?_ hpl
  refine thn (hkw.run pos pins s1 σ H1 _ I1 q) fun ws s3 ⟨zs, H3, I3, rz, l1, l2, q3⟩ => ⟨I3.kIn, ?_⟩
  rw [hks]
  exact run_fnN (us := [.ref a]) (vs := [.ref a]) F hr hb hx I3 (.cons rfl .nil) rz rfl l2 q3
end
end MethN

namespace Law
open PySem PySem.Spec PyProof.Rows L2 Sup
theorem FoundL.sameB {H0 H H' : Hp} {p b l : Addr} {js : List (List Str × Int)} (h : FoundL H0 H p js) (B : Box H b l) (s : SameB b H H') (n : p ≠ b) (hb : ∀ c, H0 c = none → c ≠ b) : FoundL H0 H' p js := by
  obtain ⟨ts, h1, h2, h3⟩ := h
  refine ⟨ts, s _ _ n h1, h2, fun i t ns L e1 e2 => ?_⟩
  obtain ⟨nl, m, n0, z1, z2⟩ := h3 i t ns L e1 e2
  exact ⟨nl, m, n0, s _ _ (B.neT z1) z1, s _ _ (hb _ n0) z2⟩
theorem first_fit {rows : List Row} (hF : ∀ p ∈ rows, Fit p.1) (m L : Int) : ∀ y ∈ firstOf (allJ rows m) L, Fit y := fun y hy => by
  unfold firstOf at hy
  split at hy
  · rename_i p hp
    obtain ⟨j, hj, rfl⟩ := List.mem_map.mp (List.mem_of_find?_eq_some hp)
    obtain ⟨k, _, hk⟩ := List.mem_flatMap.mp hj
    obtain ⟨a, ha, rfl⟩ := List.mem_map.mp hy
    have g := (good_lev _ _ (levP_sub _ _ hk)).lt a ha
    rw [List.length_map] at g
    obtain ⟨L', l1, _⟩ := row_at g
    exact hF _ (List.mem_of_getElem? l1)
  · cases hy
theorem first_len {rows : List Row} (m L : Int) : (firstOf (allJ rows m) L).length ≤ rows.length := by
  unfold firstOf
  split
  · rename_i p hp
    obtain ⟨j, hj, rfl⟩ := List.mem_map.mp (List.mem_of_find?_eq_some hp)
    obtain ⟨k, _, hk⟩ := List.mem_flatMap.mp hj
    have g := good_lev _ _ (levP_sub _ _ hk)
    have g1 := g.lt _ (last_mem g.ne)
    have g2 := g.len
    have g3 := g.lo
    rw [List.length_map] at g1
    show (j.map (nameAt rows)).length ≤ _
    rw [List.length_map]
    omega
  · exact Nat.zero_le _
theorem cut_ints {ns : List Int} {a b : Option Int} : ∀ x ∈ cutV (ns.map V.int) a b, ∃ i, x = V.int i := fun x hx => by
  unfold cutV at hx
  obtain ⟨i, _, rfl⟩ := List.mem_map.mp (List.mem_of_mem_drop (List.mem_of_mem_take hx))
  exact ⟨i, rfl⟩
theorem uniq_allJ {rows : List Row} (h : rows.length ≤ 8) {m : Int} {ns : List Int} (p : ascOf (allJ rows m) ns) : ns.length ≤ 700 := by
  have l1 := allJ_len h m
  have l2 := uniq_len [] ((allJ rows m).map (·.2))
  have l3 := p.1.length_eq
  rw [List.length_map] at l2
  simp only [List.length_nil] at l2
  omega
def Fines (CR : Addr) (r d : Addr) (rows : List Row) (H : Hp) : Prop := Fine CR H r d rows
theorem Fine.same {CR r d : Addr} {rows : List Row} {H H' : Hp} (h : Fine CR H r d rows) (s : Same H H') : Fine CR H' r d rows := ⟨h.R.same s, h.n8, h.nd, h.fit, h.len⟩
theorem Wld.fine {CR : Addr} {H : Hp} {b l r d rl : Addr} {rows : List Row} (W : Wld CR H b l r d rl rows) (hL : ∀ p ∈ rows, 0 ≤ p.2 ∧ p.2 ≤ 10 ^ 18) : Fine CR H r d rows :=
  ⟨W.R, W.n8, W.nd, W.fit, fun p hp => ⟨(hL p hp).1, Nat.lt_of_le_of_lt (show p.2.natAbs ≤ 10 ^ 18 by have := hL p hp; omega) (by decide +kernel)⟩⟩
theorem Fine.at {CR r d : Addr} {rows : List Row} {H : Hp} (h : Fine CR H r d rows) : ∃ dx fs, H r = some (.ins CR dx fs) ∧ fs.lookup ("names_for" : Str) = none ∧ fs.lookup ("lengths" : Str) = none ∧ fs.lookup ("put" : Str) = none ∧ fs.lookup ("names" : Str) = none := by
  obtain ⟨⟨dx, fs, w1, w2, w3⟩, w4⟩ := h.R
  exact ⟨dx, fs, w1, w3 _ (by decide), w3 _ (by decide), w3 _ (by decide), w3 _ (by decide)⟩
theorem same_upd {H H' : Hp} {p : Addr} {o : HO} (s : Same H H') (n : H p = none) : Same H (upd H' p o) := fun c o' e => by
  rw [upd_ne (ne_of_none e n)]
  exact s _ _ e
def spLaw (K : PySem.W.Frag) : Sp := fun vs H Q _ => ∃ (a : Addr) (ns : List Int), vs = [.ref a] ∧ SqL K H a (ns.map V.int) ∧ ns.length ≤ 63 ∧ ∀ H', Q (.bl true) H'
structure MTxt (mg : Str → Option Value) (fB fT fRk fLj fAs fFi fNb : Addr) : Prop where
  box : mg "_law_box" = some (.ref fB)
  take : mg "_law_take" = some (.ref fT)
  rk : mg "_law_rack" = some (.ref fRk)
  ljs : mg "_law_joins" = some (.ref fLj)
  asc : mg "_law_ascending" = some (.ref fAs)
  fst : mg "_law_first" = some (.ref fFi)
  nbs : mg "_law_numbers" = some (.ref fNb)
  b_isinstance : mg "isinstance" = none
  b_list : mg "list" = none
section
variable {P : Program} {w : World} {K : PySem.W.Frag} {mg : Str → Option Value} {base : Heap} {C : Errs} {CR : Addr}
theorem scLaw : FnScope ["_law_script", "_law_box_here", "_law_rack_here", "_law_rows", "_law_count", "_law_joins_here", "_law_due", "_law_last", "_law_told", "_law_length", "_law_names", "_law_probe", "_law_longer", "_law_row"] ["_law_script"] (defScope sLaw) := ⟨rfl, rfl, rfl, by decide +kernel, rfl, by decide +kernel, by decide +kernel⟩
set_option maxHeartbeats 0 in
theorem ok_law {f fB fT fRk fLj fAs fFi fNb fNs fNf fLn fP : Addr} {fd fdB fdT fdRk fdLj fdAs fdFi fdNb fdNs fdNf fdLn : FuncData} {dsNf dsLn : List Value} (F : Fun K "law" "law" sLaw f fd) (T : MTxt mg fB fT fRk fLj fAs fFi fNb)
    (GB : FnOk P w K mg base CX0 1 fB fdB ["_law_script"] (spBox K)) (FB : Fun K "_law_box" "_law_box" sBox fB fdB) (bB : Binds K fdB ["_law_script"] [])
    (GT : FnOk P w K mg base CX0 1 fT fdT ["_law_box_here", "_law_size"] spTake) (FT : Fun K "_law_take" "_law_take" sTake fT fdT) (bT : Binds K fdT ["_law_box_here", "_law_size"] [])
    (GRk : FnOk P w K mg base CX0 8 fRk fdRk ["_law_box_here", "_law_many"] (spRk CR)) (FRk : Fun K "_law_rack" "_law_rack" sRk fRk fdRk) (bRk : Binds K fdRk ["_law_box_here", "_law_many"] [])
    (GLj : FnOk P w K mg base CX0 2 fLj fdLj ["_law_rows", "_law_count"] spLjs) (FLj : Fun K "_law_joins" "_law_joins" sLjs fLj fdLj) (bLj : Binds K fdLj ["_law_rows", "_law_count"] [])
    (GAs : FnOk P w K mg base CX0 1 fAs fdAs ["_law_joins_here"] spAsc) (FAs : Fun K "_law_ascending" "_law_ascending" sAsc fAs fdAs) (bAs : Binds K fdAs ["_law_joins_here"] [])
    (GFi : FnOk P w K mg base CX0 1 fFi fdFi ["_law_joins_here", "_law_length"] spFst) (FFi : Fun K "_law_first" "_law_first" sFst fFi fdFi) (bFi : Binds K fdFi ["_law_joins_here", "_law_length"] [])
    (GNb : FnOk P w K mg base CX0 1 fNb fdNb ["_law_row", "_law_due"] spNbs) (FNb : Fun K "_law_numbers" "_law_numbers" sNbs fNb fdNb) (bNb : Binds K fdNb ["_law_row", "_law_due"] [])
    (GNf : FnOk P w K mg base (L2.CX P w) 9 fNf fdNf ["self", "length", "most"] (spNmF CR)) (bNf1 : Binds K fdNf ["self", "length", "most"] []) (bNf0 : Binds K fdNf ["self", "length", "most"] dsNf) (vNf : Vals [V.int 1] dsNf) (kNf : KBn K fdNf ["self", "length", "most"] 2 ["most"] (fun us ws => us ++ ws) (fun vs zs => vs ++ zs)) (MNf : Meth K CR "names_for" fNf)
    (GLn : FnOk P w K mg base (L2.CX P w) 9 fLn fdLn ["self", "most"] (spLens CR)) (bLn1 : Binds K fdLn ["self", "most"] []) (bLn0 : Binds K fdLn ["self", "most"] dsLn) (vLn : Vals [V.int 1] dsLn) (kLn : KBn K fdLn ["self", "most"] 1 ["most"] (fun us ws => us ++ ws) (fun vs zs => vs ++ zs)) (MLn : Meth K CR "lengths" fLn)
    (GP : FnR P w K mg base (L2.CX P w) 5 fP (spPut C CR)) (MP : Meth K CR "put" fP)
    (GNs : FnOk P w K mg base CX0 1 fNs fdNs ["self"] (spNms CR)) (bNs : Binds K fdNs ["self"] []) (MN : Meth K CR "names" fNs) (cl : Cls K CR) : FnOk P w K mg base CX0 10 f fd ["_law_script"] (spLaw K) := by
  refine F.ok scLaw (fun vs H Q E h => ?_) (fun cdv A outer s H vs Q E hr h => ?_)
  · obtain ⟨a, ns, rfl, _⟩ := h
    rfl
  · obtain ⟨a, ns, rfl, hS, h63, k⟩ := h
    have hr1 : Room 1 _ := hr.mono (by decide)
    have hr2 : Room 2 _ := hr.mono (by decide)
    have hr5 : Room 5 _ := hr.mono (by decide)
    have hr8 : Room 8 _ := hr.mono (by decide)
    refine ⟨_, (pss_cons (ps_set (i := 1) scLaw.nd rfl (Or.inl rfl) (pe_call GB hr1 rfl T.box FB.kp bB .nil pass0 (pa_cons (pv 0) pa_nil)))
      (pss_cons (ps_asg (pe_call GRk hr8 rfl T.rk FRk.kp bRk .nil pass0 (pa_cons (pv 1) (pa_cons pe_int pa_nil))) (pg_tup (by rfl) (pgs_cons (pg_name (i := 2) scLaw.nd rfl (Or.inl rfl)) (pgs_cons (pg_name (i := 3) scLaw.nd rfl (Or.inl rfl)) pgs_nil))))
      (pss_cons (ps_set (i := 4) scLaw.nd rfl (Or.inl rfl) (pe_op op_sub (pe_call GT hr1 rfl T.take FT.kp bT .nil pass0 (pa_cons (pv 1) (pa_cons pe_int pa_nil))) pe_int))
      (pss_cons (ps_set (i := 5) scLaw.nd rfl (Or.inl rfl) (pe_call GLj hr2 rfl T.ljs FLj.kp bLj .nil pass0 (pa_cons (pv 3) (pa_cons (pv 4) pa_nil))))
      (pss_cons (ps_set (i := 6) scLaw.nd rfl (Or.inl rfl) (pe_call GAs hr1 rfl T.asc FAs.kp bAs .nil pass0 (pa_cons (pv 5) pa_nil)))
      (pss_cons (ps_set (i := 7) scLaw.nd rfl (Or.inl rfl) (pe_ix ix_list (pe_op op_cat (pv 6) (pe_lst (pa_cons pe_int pa_nil))) (pe_un un_neg pe_int) (fun _ _ => rfl)))
      (pss_cons (ps_if (pt_cmpR (op_neD hr.units) (pe_meth (E := E0) (pv 2) cl MNf GNf hr bNf1 .nil passL (pa_cons (pv 7) (pa_cons (pv 4) pa_nil))) (pe_call GFi hr1 rfl T.fst FFi.kp bFi .nil pass0 (pa_cons (pv 5) (pa_cons (pv 7) pa_nil))) (nomark _)) (pss_one (ps_ret pe_bl)) pss_nil)
      (pss_cons (ps_set (i := 8) scLaw.nd rfl (Or.inl rfl) (pe_meth (E := E0) (pv 2) cl MLn GLn hr bLn1 .nil passL (pa_cons (pv 4) pa_nil)))
      (pss_cons (ps_if (pt_not (pt_val (pe_call GNb hr1 rfl T.nbs FNb.kp bNb .nil pass0 (pa_cons (pv 8) (pa_cons (pv 6) pa_nil))))) (pss_one (ps_ret pe_bl)) pss_nil)
      (pss_cons (ps_expr (pe_bm PySem.F.plainAttrs_list PySem.F.slot_list_append PySem.F.type_list_append mt_append (pv 8) (pa_cons (pe_un un_neg pe_int) pa_nil)))
      (pss_cons (ps_if (pt_not (pt_val (pe_call GNb hr1 rfl T.nbs FNb.kp bNb .nil pass0 (pa_cons (MethN.pe_methN0 (E := E0) (pv 2) cl MLn GLn hr kLn passL (pk_cons (pv 4) pk_nil)) (pa_cons (pv 6) pa_nil))))) (pss_one (ps_ret pe_bl)) pss_nil)
      (pss_cons (ps_if (pt_not (pt_val (pe_call GNb hr1 rfl T.nbs FNb.kp bNb .nil pass0 (pa_cons (pe_meth0 (E := E0) (pv 2) cl MLn GLn hr bLn0 vLn passL) (pa_cons (pe_call GAs hr1 rfl T.asc FAs.kp bAs .nil pass0 (pa_cons (pe_call GLj hr2 rfl T.ljs FLj.kp bLj .nil pass0 (pa_cons (pv 3) (pa_cons pe_int pa_nil))) pa_nil)) pa_nil))))) (pss_one (ps_ret pe_bl)) pss_nil)
      (pss_cons (ps_for PassesOwn.never rfl (pi_list (pe_op op_cat (pe_op op_cat (pe_slice sl_list (pv 6) po_none (po_some pe_int)) (pe_slice sl_list (pv 6) (po_some (pe_un un_neg pe_int)) po_none)) (pe_lst (pa_cons (pe_call GT hr1 rfl T.take FT.kp bT .nil pass0 (pa_cons (pv 1) (pa_cons pe_int pa_nil))) (pa_cons (pe_un un_neg pe_int) pa_nil))))) (pg_name (i := 9) scLaw.nd rfl (Or.inl rfl)) (pss_cons (ps_set (i := 10) scLaw.nd rfl (Or.inl rfl) (pe_meth (E := E0) (pv 2) cl MNf GNf hr bNf1 .nil passL (pa_cons (pv 9) (pa_cons (pv 4) pa_nil))))
      (pss_cons (ps_if (PW.pt (pw_or (pt_not (pt_val (pe_callB call_isi (by rfl) T.b_isinstance (by decide +kernel) (pa_cons (pv 10) (pa_cons (pe_bltn (v := .ty "list") (by rfl) T.b_list (by decide +kernel) rfl) pa_nil))))) (pw_or1 (pt_cmpR (op_neD hr.units) (pv 10) (pe_call GFi hr1 rfl T.fst FFi.kp bFi .nil pass0 (pa_cons (pv 5) (pa_cons (pv 9) pa_nil))) (nomark _))))) (pss_one (ps_ret pe_bl)) pss_nil)
      (pss_cons (ps_expr (pe_bm PySem.F.plainAttrs_list PySem.F.slot_list_append PySem.F.type_list_append mt_append (pv 10) (pa_cons pe_str pa_nil)))
      (pss_one (ps_if (pt_cmpR (op_neD hr.units) (MethN.pe_methN (E := E0) (pv 2) cl MNf GNf hr kNf passL (pa_cons (pv 9) pa_nil) (pk_cons (pv 4) pk_nil)) (pe_call GFi hr1 rfl T.fst FFi.kp bFi .nil pass0 (pa_cons (pv 5) (pa_cons (pv 9) pa_nil))) (nomark _)) (pss_one (ps_ret pe_bl)) pss_nil))))))
      (pss_cons (ps_set (i := 11) scLaw.nd rfl (Or.inl rfl) (pe_call GT hr1 rfl T.take FT.kp bT .nil pass0 (pa_cons (pv 1) (pa_cons pe_int pa_nil))))
      (pss_cons (ps_if (pt_cmpR (op_neD hr.units) (pe_meth (E := E0) (pv 2) cl MNf GNf hr bNf0 vNf passL (pa_cons (pv 11) pa_nil)) (pe_call GFi hr1 rfl T.fst FFi.kp bFi .nil pass0 (pa_cons (pe_call GLj hr2 rfl T.ljs FLj.kp bLj .nil pass0 (pa_cons (pv 3) (pa_cons pe_int pa_nil))) (pa_cons (pv 11) pa_nil))) (nomark _)) (pss_one (ps_ret pe_bl)) pss_nil)
      (pss_cons (ps_set (i := 12) scLaw.nd rfl (Or.inl rfl) (pe_call GT hr1 rfl T.take FT.kp bT .nil pass0 (pa_cons (pv 1) (pa_cons pe_int pa_nil))))
      (pss_cons (ps_expr (Own.pe_methW (E := fun _ => E0) (pv 2) cl MP GP hr5 (passS passL) (pa_cons pe_str (pa_cons (pv 12) pa_nil))))
      (pss_cons (ps_expr (pe_bm PySem.F.plainAttrs_list PySem.F.slot_list_append PySem.F.type_list_append mt_append (pv 3) (pa_cons (pe_tup (pa_cons pe_str (pa_cons (pv 12) pa_nil))) pa_nil)))
      (pss_cons (ps_set (i := 5) scLaw.nd rfl (Or.inl rfl) (pe_call GLj hr2 rfl T.ljs FLj.kp bLj .nil pass0 (pa_cons (pv 3) (pa_cons (pv 4) pa_nil))))
      (pss_cons (ps_set (i := 6) scLaw.nd rfl (Or.inl rfl) (pe_call GAs hr1 rfl T.asc FAs.kp bAs .nil pass0 (pa_cons (pv 5) pa_nil)))
      (pss_cons (ps_for PassesOwn.never rfl (pi_list (pe_op op_cat (pe_lst (pa_cons (pv 11) (pa_cons (pv 12) (pa_cons (pe_op op_sub (pe_op op_add (pv 12) (pe_ix ix_tup (pe_ix ix_list (pv 3) pe_int (fun _ _ => rfl)) pe_int (fun _ _ => rfl))) pe_int) pa_nil)))) (pe_slice sl_list (pv 6) (po_some (pe_un un_neg pe_int)) po_none))) (pg_name (i := 9) scLaw.nd rfl (Or.inl rfl)) (pss_one (ps_if (pt_cmpR (op_neD hr.units) (pe_meth (E := E0) (pv 2) cl MNf GNf hr bNf1 .nil passL (pa_cons (pv 9) (pa_cons (pv 4) pa_nil))) (pe_call GFi hr1 rfl T.fst FFi.kp bFi .nil pass0 (pa_cons (pv 5) (pa_cons (pv 9) pa_nil))) (nomark _)) (pss_one (ps_ret pe_bl)) pss_nil)))
      (pss_one (ps_ret (pe_and (pe_call GNb hr1 rfl T.nbs FNb.kp bNb .nil pass0 (pa_cons (pe_meth (E := E0) (pv 2) cl MLn GLn hr bLn1 .nil passL (pa_cons (pv 4) pa_nil)) (pa_cons (pv 6) pa_nil))) (pe_one (pe_cmpR (op_eqD hr.units) (pe_meth0 (pv 2) cl MN GNs hr1 bNs .nil pass0) (pe_lc (own := [("_law_row", 13)]) (g := gName 13) (tt := tYes) (by rfl) scLaw.nd (pi_list (pv 3)) (blkOk_by (own := [("_law_row", 13)]) (N := ["_law_script", "_law_box_here", "_law_rack_here", "_law_rows", "_law_count", "_law_joins_here", "_law_due", "_law_last", "_law_told", "_law_length", "_law_names", "_law_probe", "_law_longer", "_law_row"]) (sc := defScope sLaw) (by decide +kernel)) (fun _ _ _ _ _ => pg_name (i := 13) scLaw.nd rfl (Or.inl rfl)) (fun _ _ _ _ _ => pts_nil) (fun _ _ _ _ _ => (pe_ix (r := rIxT K) ix_tup (pv 13) pe_int (fun _ _ => rfl)))) (nomark _))))))))))))))))))))))))))), ?_⟩
    refine ⟨_, rfl, a, ns, rfl, hS, h63, fun b l H1 B1 nb nl s1 => ?_⟩
    refine ⟨_, rfl, b, l, 7, rfl, B1, by decide, by decide, fun t r d rl rows H2 e2 W2 hL hN s2 => ?_⟩
    refine ⟨t, _, rfl, SqT.of e2, rfl, _, _, rfl, _, _, rfl, rfl, ?_⟩
    refine ⟨_, rfl, b, l, _, rfl, W2.B, by decide, by decide, fun c H3 c0 c1 B3 k3 => ⟨_, _, rfl, rfl, ?_⟩⟩
    have W3 := W2.draw B3 (SameB.of k3)
    have Fi3 := W3.fine hL
    have n8 := W3.n8
    have sh : ∀ m L, SeqAt.shaped (.list ((firstOf (allJ rows m) L).map PyData.str)) = true := fun m L => shaped_strs fun y hy => (first_fit W3.fit m L y hy).2
    dsimp only
    generalize c - 1 = m
    refine ⟨_, rfl, _, rfl, rl, rows, m, rfl, W3.A, n8, fun jp H4 njp s4 F4 => ?_⟩
    refine ⟨_, rfl, H3, jp, _, rfl, F4, by have := allJ_len n8 m; omega, fun dp H5 due ndp s5 hdue e5 => ?_⟩
    have S5 := same_tr s4 s5
    have F5 := F4.same s5
    have d700 := uniq_allJ n8 hdue
    have ndp3 := none_back s4 ndp
    refine ⟨_, rfl, by show 1 ≤ sizeLine; decide, fun q1 hq1 => ?_⟩
    have n1 := same_new (o := .lst [V.int 5]) hq1
    refine ⟨dp, q1, _, _, rfl, rfl, n1 _ _ e5, upd_same, by rw [List.length_map, sizeLine_eq]; simp; omega, fun q2 hq2 => ?_⟩
    have n2 := same_tr n1 (same_new (o := .lst (due.map V.int ++ [V.int 5])) hq2)
    refine ⟨1, rfl, q2, _, _, _, rfl, rfl, SqL.of upd_same, (at_last (by simp)).trans List.getLast?_concat, ?_⟩
    have S6 := same_tr S5 n2
    have F6 := F5.same n2
    have e6 := n2 _ _ e5
    generalize upd (upd H5 q1 (.lst [V.int 5])) q2 (.lst (due.map V.int ++ [V.int 5])) = H6 at S6 F6 e6
    clear n1 n2 hq1 hq2
    -- the last one
    obtain ⟨dx, fs, w1, w2, w3, w4, w5⟩ := (Fi3.same S6).at
    refine ⟨_, rfl, r, dx, fs, rfl, w1, w2, _, rfl, _, rfl, r, d, rows, 5, m, rfl, Fi3.same S6, fun p7 H7 np7 s7 g7 => ?_⟩
    refine ⟨_, rfl, _, rfl, H3, jp, _, 5, rfl, F6.same s7, fun p8 H8 s8 g8 => ?_⟩
    refine ⟨.list ((firstOf (allJ rows m) 5).map PyData.str), .list ((firstOf (allJ rows m) 5).map PyData.str), .lst (SqL.of (s8 _ _ g7)) (dp_strs _), .lst (SqL.of g8) (dp_strs _), sh _ _, sh _ _, _, rfl, if_f (by rw [eqv_rfl (sh _ _)]; rfl) ?_⟩
    have S8 := same_tr (same_tr S6 s7) s8
    have F8 := (F6.same s7).same s8
    have e8 := s8 _ _ (s7 _ _ e6)
    -- told
    obtain ⟨dx, fs, w1, w2, w3, w4, w5⟩ := (Fi3.same S8).at
    refine ⟨_, rfl, r, dx, fs, rfl, w1, w3, _, rfl, r, d, rows, m, rfl, Fi3.same S8, fun tp H9 ns9 np9 s9 hp9 hs9 g9 => ?_⟩
    have eq9 : ns9 = due := PySem.W.ksm_same (hp9.trans hdue.1.symm) hs9 hdue.2
    subst eq9
    have e9 := s9 _ _ e8
    refine ⟨_, rfl, _, rfl, tp, dp, ns9, rfl, g9, e9, by omega, _, rfl, if_f rfl ?_⟩
    -- told.append(-5)
    have S9 := same_tr S8 s9
    have np93 := none_back S8 np9
    refine ⟨_, rfl, .inl ⟨rfl, _, SqL.of g9⟩, 5, rfl, tp, _, _, rfl, rfl, g9, small1000 (by rw [List.length_map]; omega), ?_⟩
    have ntd : dp ≠ tp := ne_of_none e8 np9
    have e10 : upd H9 tp (.lst (ns9.map V.int ++ [V.int (-5)])) dp = some (.lst (ns9.map V.int)) := by rw [upd_ne ntd]; exact e9
    have S10 := same_upd (o := .lst (ns9.map V.int ++ [V.int (-5)])) S9 np93
    have F10 : FoundL H3 (upd H9 tp (.lst (ns9.map V.int ++ [V.int (-5)]))) jp (allJ rows m) := F8.same (same_upd s9 np9)
    generalize upd H9 tp (.lst (ns9.map V.int ++ [V.int (-5)])) = H10 at S10 e10 F10
    -- lengths(most=count)
    obtain ⟨dx, fs, w1, w2, w3, w4, w5⟩ := (Fi3.same S10).at
    refine ⟨_, rfl, r, dx, fs, rfl, w1, w3, _, rfl, rfl, rfl, r, d, rows, m, rfl, Fi3.same S10, fun p11 H11 ns11 np11 s11 hp11 hs11 g11 => ?_⟩
    have eq11 : ns11 = ns9 := PySem.W.ksm_same (hp11.trans hdue.1.symm) hs11 hdue.2
    subst eq11
    refine ⟨_, rfl, p11, dp, ns11, rfl, g11, s11 _ _ e10, by omega, _, rfl, if_f rfl ?_⟩
    have S11 := same_tr S10 s11
    have F11 := F10.same s11
    have e11 := s11 _ _ e10
    -- lengths()
    obtain ⟨dx, fs, w1, w2, w3, w4, w5⟩ := (Fi3.same S11).at
    refine ⟨_, rfl, r, dx, fs, rfl, w1, w3, r, d, rows, 1, rfl, Fi3.same S11, fun p12 H12 ns12 np12 s12 hp12 hs12 g12 => ?_⟩
    refine ⟨_, rfl, rl, rows, 1, rfl, (W3.A.same S11).same s12, n8, fun j13 H13 nj13 s13 F13 => ?_⟩
    refine ⟨H12, j13, _, rfl, F13, by have := allJ_len n8 1; omega, fun p14 H14 ns14 np14 s14 hd14 g14 => ?_⟩
    have eq14 : ns12 = ns14 := PySem.W.ksm_same (hp12.trans hd14.1.symm) hs12 hd14.2
    subst eq14
    have l14 := uniq_allJ n8 hd14
    refine ⟨p12, p14, ns12, rfl, s14 _ _ (s13 _ _ g12), g14, by omega, _, rfl, if_f rfl ?_⟩
    have s1114 := same_tr (same_tr s12 s13) s14
    have S14 := same_tr S11 s1114
    have F14 := F11.same s1114
    have e14 := s1114 _ _ e11
    have F14' := F13.same s14
    clear F4 F5 F6 F8 F10 F11 e5 e6 e8 e9 e10 e11 g14 g12 g11
    -- the list of the loop
    refine ⟨_, rfl, 5, rfl, dp, _, rfl, SqL.of e14, fun c1 hc1 => ?_⟩
    have sc1 := same_new (o := .lst (cutV (ns11.map V.int) none (some 5))) hc1
    refine ⟨_, rfl, 5, rfl, -5, rfl, dp, _, rfl, SqL.of (sc1 _ _ e14), fun c2 hc2 => ?_⟩
    have sc2 := same_new (o := .lst (cutV (ns11.map V.int) (some (-5)) none)) hc2
    have lc1 : (cutV (ns11.map V.int) none (some 5)).length ≤ 700 := Nat.le_trans (cutV_length _ _ _) (by rw [List.length_map]; omega)
    have lc2 : (cutV (ns11.map V.int) (some (-5)) none).length ≤ 700 := Nat.le_trans (cutV_length _ _ _) (by rw [List.length_map]; omega)
    refine ⟨c1, c2, _, _, rfl, rfl, sc2 _ _ upd_same, upd_same, by rw [sizeLine_eq]; omega, fun c3 hc3 => ?_⟩
    have sc3 := same_new (o := .lst (cutV (ns11.map V.int) none (some 5) ++ cutV (ns11.map V.int) (some (-5)) none)) hc3
    have e3 : upd (upd (upd H14 c1 (.lst (cutV (ns11.map V.int) none (some 5)))) c2 (.lst (cutV (ns11.map V.int) (some (-5)) none))) c3 (.lst (cutV (ns11.map V.int) none (some 5) ++ cutV (ns11.map V.int) (some (-5)) none)) c3 = some (.lst (cutV (ns11.map V.int) none (some 5) ++ cutV (ns11.map V.int) (some (-5)) none)) := upd_same
    have sc := same_tr (same_tr sc1 sc2) sc3
    generalize upd (upd (upd H14 c1 (.lst (cutV (ns11.map V.int) none (some 5)))) c2 (.lst (cutV (ns11.map V.int) (some (-5)) none))) c3 (.lst (cutV (ns11.map V.int) none (some 5) ++ cutV (ns11.map V.int) (some (-5)) none)) = H15 at sc e3
    have S15 := same_tr S14 sc
    have F15 := F14.same sc
    have e15 := sc _ _ e14
    have W15 := W3.same S15
    have nc3 : H3 c3 = none := none_back (same_tr (same_tr S14 sc1) sc2) hc3
    clear sc sc1 sc2 sc3 hc1 hc2
    refine ⟨_, rfl, b, l, _, rfl, W15.B, by decide, by decide, fun z0 H16 _ _ B16 k16 => ⟨1, rfl, by show 2 ≤ sizeLine; decide, fun c4 hc4 => ?_⟩⟩
    have K16 := SameB.of k16
    have W16 := W15.draw B16 K16
    have hb3 : ∀ c, H3 c = none → c ≠ b := fun c hc => Ne.symm (B3.free hc).1
    have F16 := F15.sameB W15.B K16 (hb3 _ njp) hb3
    have e16 := K16 _ _ (hb3 _ ndp3) e15
    have e316 := K16 _ _ (hb3 _ nc3) e3
    have sc4 := same_new (o := .lst [V.int z0, V.int (-1)]) hc4
    refine ⟨c3, c4, _, _, rfl, rfl, sc4 _ _ e316, upd_same, by rw [List.length_append, sizeLine_eq]; simp; omega, fun zp hzp => ?_⟩
    have hz : ∀ x ∈ (cutV (ns11.map V.int) none (some 5) ++ cutV (ns11.map V.int) (some (-5)) none) ++ [V.int z0, V.int (-1)], ∃ i, x = V.int i := fun x hx => by
      rcases List.mem_append.mp hx with hx | hx
      · rcases List.mem_append.mp hx with hx | hx
        · exact cut_ints x hx
        · exact cut_ints x hx
      · simp at hx
        rcases hx with rfl | rfl
        · exact ⟨_, rfl⟩
        · exact ⟨_, rfl⟩
    generalize (cutV (ns11.map V.int) none (some 5) ++ cutV (ns11.map V.int) (some (-5)) none) ++ [V.int z0, V.int (-1)] = zs at hz
    have sz := same_tr sc4 (same_new (o := .lst zs) hzp)
    have e17 : upd (upd H16 c4 (.lst [V.int z0, V.int (-1)])) zp (.lst zs) zp = some (.lst zs) := upd_same
    have W17 := W16.same sz
    have F17 := F16.same sz
    generalize upd (upd H16 c4 (.lst [V.int z0, V.int (-1)])) zp (.lst zs) = H17 at e17 W17 F17
    have Fi17 := W17.fine hL
    clear sz sc4 hzp hc4 e316 F16 e16 F15 e15 W15 W16
    refine ⟨zp, rfl, ⟨_, SqL.of e17⟩, for_it (walk_list (xs := zs)) (fun i σ' H' => ∃ v9 v10 : Option V, σ' = [some (.ref a), some (.ref b), some (.ref r), some (.ref rl), some (.int m), some (.ref jp), some (.ref dp), some (.int 5), some (.ref tp), v9, v10, none, none, none] ∧ Same H17 H')
      ⟨_, _, rfl, same_rfl⟩ (fun i σ' H' _ h => by obtain ⟨_, _, _, z⟩ := h; exact SqL.of (z _ _ e17)) ?_ ?_⟩
    · rintro i x σ' H18 H19 hi ⟨v9, v10, rfl, S18⟩ ⟨rfl, hx⟩
      obtain ⟨L, rfl⟩ := hz x (List.mem_of_getElem? hx)
      obtain ⟨dx, fs, w1, w2, w3, w4, w5⟩ := (Fi17.same S18).at
      refine ⟨_, rfl, r, dx, fs, rfl, w1, w2, _, rfl, _, rfl, r, d, rows, L, m, rfl, Fi17.same S18, fun p H20 np s20 g20 => ?_⟩
      have S20 := same_tr S18 s20
      refine ⟨_, rfl, V.ref p, .ty "list", .type "list", .type "list", true, rfl, .ty _, .base (.lst g20), by rfl, true, rfl, if_f rfl ?_⟩
      refine ⟨_, rfl, _, rfl, _, rfl, H3, jp, _, L, rfl, F17.same S20, fun p2 H21 s21 g21 => ?_⟩
      have g20' := s21 _ _ g20
      refine ⟨.list ((firstOf (allJ rows m) L).map PyData.str), .list ((firstOf (allJ rows m) L).map PyData.str), .lst (SqL.of g20') (dp_strs _), .lst (SqL.of g21) (dp_strs _), sh _ _, sh _ _, _, rfl, if_f (by rw [eqv_rfl (sh _ _)]; rfl) ?_⟩
      have S21 := same_tr S20 s21
      have np17 := none_back S18 np
      refine ⟨_, rfl, .inl ⟨rfl, _, SqL.of g20'⟩, p, _, _, rfl, rfl, g20', small1000 (by have := first_len (rows := rows) m L; rw [List.length_map]; omega), ?_⟩
      have S22 := same_upd (o := .lst ((firstOf (allJ rows m) L).map V.str ++ [V.str "zzz"])) S21 np17
      obtain ⟨dx, fs, w1, w2, w3, w4, w5⟩ := (Fi17.same S22).at
      refine ⟨_, rfl, r, dx, fs, rfl, w1, w2, _, rfl, _, rfl, rfl, rfl, r, d, rows, L, m, rfl, Fi17.same S22, fun p3 H23 np3 s23 g23 => ?_⟩
      have S23 := same_tr S22 s23
      refine ⟨_, rfl, _, rfl, H3, jp, _, L, rfl, F17.same S23, fun p4 H24 s24 g24 => ?_⟩
      exact ⟨.list ((firstOf (allJ rows m) L).map PyData.str), .list ((firstOf (allJ rows m) L).map PyData.str), .lst (SqL.of (s24 _ _ g23)) (dp_strs _), .lst (SqL.of g24) (dp_strs _), sh _ _, sh _ _, _, rfl, if_f (by rw [eqv_rfl (sh _ _)]; rfl) ⟨_, _, rfl, same_tr S23 s24⟩⟩
    rintro σ' H18 ⟨v9, v10, rfl, S18⟩
    have W18 := W17.same S18
    clear F17 S18
    refine ⟨_, rfl, b, l, _, rfl, W18.B, by decide, by decide, fun pr H19 _ _ B19 k19 => ?_⟩
    have W19 := W18.draw B19 (SameB.of k19)
    have Fi19 := W19.fine hL
    obtain ⟨dx, fs, w1, w2, w3, w4, w5⟩ := Fi19.at
    refine ⟨_, rfl, r, dx, fs, rfl, w1, w2, _, rfl, r, d, rows, pr, 1, rfl, Fi19, fun p H20 np s20 g20 => ?_⟩
    refine ⟨_, rfl, rl, rows, 1, rfl, W19.A.same s20, n8, fun j21 H21 nj21 s21 F21 => ⟨_, rfl, H20, j21, _, pr, rfl, F21, fun p22 H22 s22 g22 => ?_⟩⟩
    have s2022 := same_tr s21 s22
    refine ⟨.list ((firstOf (allJ rows 1) pr).map PyData.str), .list ((firstOf (allJ rows 1) pr).map PyData.str), .lst (SqL.of (s2022 _ _ g20)) (dp_strs _), .lst (SqL.of g22) (dp_strs _), sh _ _, sh _ _, _, rfl, if_f (by rw [eqv_rfl (sh _ _)]; rfl) ?_⟩
    have W22 := W19.same (same_tr s20 s2022)
    refine ⟨_, rfl, b, l, _, rfl, W22.B, by decide, by decide, fun lg H23 g0 g1 B23 k23 => ?_⟩
    have W23 := W22.draw B23 (SameB.of k23)
    obtain ⟨dx, fs, w1, w2, w3, w4, w5⟩ := (W23.fine hL).at
    have fy : Fit ("rowan" : Str) := by decide +kernel
    have ky : known rows "rowan" = false := Bool.eq_false_iff.mpr fun z => by
      obtain ⟨p, hp, e⟩ := List.mem_map.mp (List.contains_iff_mem.mp z)
      have z := hN.2 p hp
      rw [e] at z
      exact absurd z (by decide +kernel)
    have hdue' : due rows "rowan" lg = .put := by
      unfold due
      rw [if_neg (by decide +kernel), if_neg (by rw [ky]; decide), if_neg (by omega), if_neg (by have := hN.1; omega)]
    refine ⟨_, rfl, r, dx, fs, rfl, w1, w4, _, rfl, r, d, rows, "rowan", lg, rfl, W23.R, by omega, fy, Nat.lt_of_le_of_lt (show lg.natAbs ≤ 10 by omega) (by decide +kernel), ⟨fun z => (by rw [hdue'] at z; cases z), fun z => (by rw [hdue'] at z; cases z), fun z => (by rw [hdue'] at z; cases z), fun z => (by rw [hdue'] at z; cases z)⟩, fun _ => ?_⟩
    have M := W23.put (y := "rowan") (L := lg) same_rfl
    generalize upd H23 d (.dK (kvs (rows ++ [(("rowan" : Str), lg)]))) = H24 at M
    obtain ⟨xs, hxs, hxl⟩ := M.A.len
    refine ⟨_, rfl, .inl ⟨rfl, _, SqL.of hxs⟩, _, rfl, by show 2 ≤ sizeLine; decide, fun t2 ht2 => ?_⟩
    refine ⟨rl, xs, _, rfl, rfl, by rw [upd_ne (ne_of_none hxs ht2)]; exact hxs, small1000 (by omega), ?_⟩
    have W25 := M.push W23.fit W23.nd W23.nl hdue' fy ht2 hxs
    generalize upd (upd H24 t2 (.tup [.str "rowan", .int lg])) rl (.lst (xs ++ [.ref t2])) = H25 at W25
    have hL' : ∀ p ∈ rows ++ [(("rowan" : Str), lg)], 0 ≤ p.2 ∧ p.2 ≤ 10 ^ 18 := fun p hp => by
      rcases List.mem_append.mp hp with hp | hp
      · exact hL p hp
      · rw [List.mem_singleton] at hp
        subst hp
        exact ⟨g0, by show lg ≤ 10 ^ 18; omega⟩
    have rne : 0 < (rows ++ [(("rowan" : Str), lg)]).length := by rw [List.length_append]; simp
    generalize rows ++ [(("rowan" : Str), lg)] = rows' at W25 hL' rne
    have n8' := W25.n8
    have Fi25 := W25.fine hL'
    have sh' : ∀ m L, SeqAt.shaped (.list ((firstOf (allJ rows' m) L).map PyData.str)) = true := fun m L => shaped_strs fun y hy => (first_fit W25.fit m L y hy).2
    refine ⟨_, rfl, _, rfl, rl, rows', m, rfl, W25.A, n8', fun j6 H26 nj6 s26 F26 => ?_⟩
    refine ⟨_, rfl, H25, j6, _, rfl, F26, by have := allJ_len n8' m; omega, fun d7 H27 ns27 nd27 s27 hd27 e27 => ?_⟩
    have S27 := same_tr s26 s27
    have l27 := uniq_allJ n8' hd27
    have F27 := F26.same s27
    have W27 := W25.same S27
    -- the list
    obtain ⟨⟨y0, L0⟩, hy0⟩ : ∃ p, rows'[0]? = some p := ⟨_, List.getElem?_eq_getElem rne⟩
    obtain ⟨xs0, t0, z1, z2, z3⟩ := W27.A.at hy0
    refine ⟨_, rfl, _, rfl, _, rfl, _, rfl, rl, _, 0, _, rfl, rfl, SqL.of z1, at_nat z2, t0, _, _, _, rfl, rfl, SqT.of z3, rfl, _, _, rfl, rfl, _, _, rfl, rfl, by show 3 ≤ sizeLine; decide, fun q1 hq1 => ?_⟩
    have sq1 := same_new (o := .lst [V.int pr, V.int lg, V.int (lg + L0 - 1)]) hq1
    refine ⟨_, rfl, 2, rfl, -2, rfl, d7, _, rfl, SqL.of (sq1 _ _ e27), fun q2 hq2 => ?_⟩
    have sq2 := same_new (o := .lst (cutV (ns27.map V.int) (some (-2)) none)) hq2
    have lq2 : (cutV (ns27.map V.int) (some (-2)) none).length ≤ 700 := Nat.le_trans (cutV_length _ _ _) (by rw [List.length_map]; omega)
    refine ⟨q1, q2, _, _, rfl, rfl, sq2 _ _ upd_same, upd_same, by rw [sizeLine_eq]; simp; omega, fun q3 hq3 => ?_⟩
    have hz' : ∀ x ∈ [V.int pr, V.int lg, V.int (lg + L0 - 1)] ++ cutV (ns27.map V.int) (some (-2)) none, ∃ i, x = V.int i := fun x hx => by
      rcases List.mem_append.mp hx with hx | hx
      · simp at hx
        rcases hx with rfl | rfl | rfl <;> exact ⟨_, rfl⟩
      · exact cut_ints x hx
    have sq3 := same_new (o := .lst ([V.int pr, V.int lg, V.int (lg + L0 - 1)] ++ cutV (ns27.map V.int) (some (-2)) none)) hq3
    have sq := same_tr (same_tr sq1 sq2) sq3
    have e28 : upd (upd (upd H27 q1 (.lst [V.int pr, V.int lg, V.int (lg + L0 - 1)])) q2 (.lst (cutV (ns27.map V.int) (some (-2)) none))) q3 (.lst ([V.int pr, V.int lg, V.int (lg + L0 - 1)] ++ cutV (ns27.map V.int) (some (-2)) none)) q3 = some (.lst ([V.int pr, V.int lg, V.int (lg + L0 - 1)] ++ cutV (ns27.map V.int) (some (-2)) none)) := upd_same
    generalize upd (upd (upd H27 q1 (.lst [V.int pr, V.int lg, V.int (lg + L0 - 1)])) q2 (.lst (cutV (ns27.map V.int) (some (-2)) none))) q3 (.lst ([V.int pr, V.int lg, V.int (lg + L0 - 1)] ++ cutV (ns27.map V.int) (some (-2)) none)) = H28 at sq e28
    generalize [V.int pr, V.int lg, V.int (lg + L0 - 1)] ++ cutV (ns27.map V.int) (some (-2)) none = zs' at e28 hz'
    have W28 := W27.same sq
    have F28 := F27.same sq
    have d28 := sq _ _ e27
    have Fi28 := W28.fine hL'
    refine ⟨q3, rfl, ⟨_, SqL.of e28⟩, for_it (walk_list (xs := zs')) (fun i σ' H' => ∃ v9 v10 : Option V, σ' = [some (.ref a), some (.ref b), some (.ref r), some (.ref rl), some (.int m), some (.ref j6), some (.ref d7), some (.int 5), some (.ref tp), v9, v10, some (.int pr), some (.int lg), none] ∧ Same H28 H')
      ⟨_, _, rfl, same_rfl⟩ (fun i σ' H' _ h => by obtain ⟨_, _, _, z⟩ := h; exact SqL.of (z _ _ e28)) ?_ ?_⟩
    · rintro i x σ' H29 H30 hi ⟨v9, v10, rfl, S29⟩ ⟨rfl, hx⟩
      obtain ⟨L, rfl⟩ := hz' x (List.mem_of_getElem? hx)
      obtain ⟨dx, fs, w1, w2, w3, w4, w5⟩ := (Fi28.same S29).at
      refine ⟨_, rfl, r, dx, fs, rfl, w1, w2, _, rfl, _, rfl, r, d, rows', L, m, rfl, Fi28.same S29, fun p3 H31 np3 s31 g31 => ?_⟩
      have S31 := same_tr S29 s31
      refine ⟨_, rfl, _, rfl, H25, j6, _, L, rfl, F28.same S31, fun p4 H32 s32 g32 => ?_⟩
      exact ⟨.list ((firstOf (allJ rows' m) L).map PyData.str), .list ((firstOf (allJ rows' m) L).map PyData.str), .lst (SqL.of (s32 _ _ g31)) (dp_strs _), .lst (SqL.of g32) (dp_strs _), sh' _ _, sh' _ _, _, rfl, if_f (by rw [eqv_rfl (sh' _ _)]; rfl) ⟨_, _, rfl, same_tr S31 s32⟩⟩
    rintro σ' H29 ⟨v9, v10, rfl, S29⟩
    -- the end
    obtain ⟨dx, fs, w1, w2, w3, w4, w5⟩ := (Fi28.same S29).at
    refine ⟨_, rfl, r, dx, fs, rfl, w1, w3, _, rfl, r, d, rows', m, rfl, Fi28.same S29, fun p30 H30 ns30 np30 s30 hp30 hs30 g30 => ?_⟩
    have S30 := same_tr S29 s30
    have eq30 : ns30 = ns27 := PySem.W.ksm_same (hp30.trans hd27.1.symm) hs30 hd27.2
    subst eq30
    refine ⟨_, rfl, p30, d7, ns30, rfl, g30, S30 _ _ d28, by omega, _, rfl, if_t rfl ?_⟩
    have fst : rows'.map (fun x => V.str x.1) = (rows'.map (·.1)).map V.str := by rw [List.map_map]; rfl
    have shp : SeqAt.shaped (.list ((rows'.map (·.1)).map PyData.str)) = true := shaped_strs fun n hn => by
      obtain ⟨p, hp, rfl⟩ := List.mem_map.mp hn
      exact (W25.fit p hp).2
    obtain ⟨dx, fs, w1, w2, w3, w4, w5⟩ := (Fi28.same S30).at
    refine ⟨_, rfl, r, dx, fs, rfl, w1, w5, r, d, rows', rfl, (W28.same S30).R, fun p hp => ?_⟩
    rw [fst]
    have sp_ := same_new (o := .lst ((rows'.map (·.1)).map V.str)) hp
    refine r_names rfl (by decide) (by show 13 < 14; decide) (W28.A.same (same_tr S30 sp_)) (by omega) fun D8 H8 _ g8 s8 => ?_
    refine ⟨.list ((rows'.map (·.1)).map PyData.str), .list ((rows'.map (·.1)).map PyData.str), .lst (SqL.of (s8 _ _ upd_same)) (dp_strs _), .lst (SqL.of g8) (dp_strs _), shp, shp, ?_⟩
    rw [eqv_rfl shp]
    exact k _
end
end Law

namespace Law
open PySem PySem.Spec PyProof.Rows L2 Sup NdefX
abbrev sEN : Stmt := inClass (top 4) 0
abbrev sET : Stmt := inClass (top 5) 0
abbrev sEU : Stmt := inClass (top 6) 0
abbrev sEM : Stmt := inClass (top 7) 0
theorem all_mk {P : Program} {w : World} {K : PySem.W.Frag} {h : Heap} {mg : Str → Option Value} {fa : Addr} (X : K.In h) (G : h.Ns mainGlobals mg) (hfa : mg "law" = some (.ref fa)) (htop : (P.main.scope.names.lookup ("super" : Str)).isSome = false)
    {fN : Addr} {odN anN : Option Addr} {slN : Array (Option Value)} {ocN kVN dcN pmN cdN ctN : Value}
    {fK : Addr} {odK anK : Option Addr} {slK : Array (Option Value)} {ocK kVK dcK pmK cdK ctK : Value}
    {fJ : Addr} {odJ anJ : Option Addr} {slJ : Array (Option Value)} {ocJ kVJ dcJ pmJ cdJ ctJ : Value}
    {fMi : Addr} {odMi anMi : Option Addr} {slMi : Array (Option Value)} {ocMi kVMi dcMi pmMi cdMi ctMi : Value}
    {DTMi : Addr} {xoMi : Value} {xdMi : Option Addr} {xsMi : Array (Option Value)} {xnMi : Nat} {tkI : Tok}
    {fRi : Addr} {odRi anRi : Option Addr} {slRi : Array (Option Value)} {ocRi kVRi dcRi pmRi cdRi ctRi : Value}
    {fRp : Addr} {odRp anRp : Option Addr} {slRp : Array (Option Value)} {ocRp kVRp dcRp pmRp cdRp ctRp : Value}
    {fRn : Addr} {odRn anRn : Option Addr} {slRn : Array (Option Value)} {ocRn kVRn dcRn pmRn cdRn ctRn : Value}
    {fRl : Addr} {odRl anRl : Option Addr} {slRl : Array (Option Value)} {ocRl kVRl dcRl pmRl cdRl ctRl : Value}
    {fRj : Addr} {odRj anRj : Option Addr} {slRj : Array (Option Value)} {ocRj kVRj dcRj pmRj cdRj ctRj : Value}
    {fLg : Addr} {odLg anLg : Option Addr} {slLg : Array (Option Value)} {ocLg kVLg dcLg pmLg cdLg ctLg : Value}
    {fJo : Addr} {odJo anJo : Option Addr} {slJo : Array (Option Value)} {ocJo kVJo dcJo pmJo cdJo ctJo : Value}
    {fLn : Addr} {odLn anLn : Option Addr} {slLn : Array (Option Value)} {ocLn kVLn dcLn pmLn cdLn ctLn : Value}
    {DTLn : Addr} {xoLn : Value} {xdLn : Option Addr} {xsLn : Array (Option Value)} {xnLn : Nat} {tkLn : Tok}
    {fNf : Addr} {odNf anNf : Option Addr} {slNf : Array (Option Value)} {ocNf kVNf dcNf pmNf cdNf ctNf : Value}
    {DTNf : Addr} {xoNf : Value} {xdNf : Option Addr} {xsNf : Array (Option Value)} {xnNf : Nat} {tkNf : Tok}
    {fB : Addr} {odB anB : Option Addr} {slB : Array (Option Value)} {ocB kVB dcB pmB cdB ctB : Value}
    {fT : Addr} {odT anT : Option Addr} {slT : Array (Option Value)} {ocT kVT dcT pmT cdT ctT : Value}
    {fRk : Addr} {odRk anRk : Option Addr} {slRk : Array (Option Value)} {ocRk kVRk dcRk pmRk cdRk ctRk : Value}
    {fNb : Addr} {odNb anNb : Option Addr} {slNb : Array (Option Value)} {ocNb kVNb dcNb pmNb cdNb ctNb : Value}
    {fSe : Addr} {odSe anSe : Option Addr} {slSe : Array (Option Value)} {ocSe kVSe dcSe pmSe cdSe ctSe : Value}
    {fLj : Addr} {odLj anLj : Option Addr} {slLj : Array (Option Value)} {ocLj kVLj dcLj pmLj cdLj ctLj : Value}
    {fAs : Addr} {odAs anAs : Option Addr} {slAs : Array (Option Value)} {ocAs kVAs dcAs pmAs cdAs ctAs : Value}
    {fFi : Addr} {odFi anFi : Option Addr} {slFi : Array (Option Value)} {ocFi kVFi dcFi pmFi cdFi ctFi : Value}
    {fL : Addr} {odL anL : Option Addr} {slL : Array (Option Value)} {ocL kVL dcL pmL cdL ctL : Value}
    {CEB BEB fiEB cdEB ccEB NEB : Addr} {nmEB qEB : Str} {bsEB : List Value} {snEB : List Str} {subEB : List Value} {abEB : Bool} {colEB : Option Bool} {ddEB : Option Addr} {m0EB m1EB m2EB m3EB m5EB : Option Value}
    {odEB anEB dkEB deEB : Option Addr} {slEB skEB seEB : Array (Option Value)} {ocEB kVEB dcEB pmEB ctEB ckEB ceEB : Value} {vkEB : Array Value} {flEB : Str} {tfEB : Tok}
    {CEN BEN fiEN cdEN ccEN NEN : Addr} {nmEN qEN : Str} {bsEN : List Value} {snEN : List Str} {subEN : List Value} {abEN : Bool} {colEN : Option Bool} {ddEN : Option Addr} {m0EN m1EN m2EN m3EN m5EN : Option Value}
    {odEN anEN dkEN deEN : Option Addr} {slEN skEN seEN : Array (Option Value)} {ocEN kVEN dcEN pmEN ctEN ckEN ceEN : Value} {vkEN : Array Value} {flEN : Str} {tfEN : Tok}
    {CET BET fiET cdET ccET NET : Addr} {nmET qET : Str} {bsET : List Value} {snET : List Str} {subET : List Value} {abET : Bool} {colET : Option Bool} {ddET : Option Addr} {m0ET m1ET m2ET m3ET m5ET : Option Value}
    {odET anET dkET deET : Option Addr} {slET skET seET : Array (Option Value)} {ocET kVET dcET pmET ctET ckET ceET : Value} {vkET : Array Value} {flET : Str} {tfET : Tok}
    {CEU BEU fiEU cdEU ccEU NEU : Addr} {nmEU qEU : Str} {bsEU : List Value} {snEU : List Str} {subEU : List Value} {abEU : Bool} {colEU : Option Bool} {ddEU : Option Addr} {m0EU m1EU m2EU m3EU m5EU : Option Value}
    {odEU anEU dkEU deEU : Option Addr} {slEU skEU seEU : Array (Option Value)} {ocEU kVEU dcEU pmEU ctEU ckEU ceEU : Value} {vkEU : Array Value} {flEU : Str} {tfEU : Tok}
    {CEM BEM fiEM cdEM ccEM NEM : Addr} {nmEM qEM : Str} {bsEM : List Value} {snEM : List Str} {subEM : List Value} {abEM : Bool} {colEM : Option Bool} {ddEM : Option Addr} {m0EM m1EM m2EM m3EM m5EM : Option Value}
    {odEM anEM dkEM deEM : Option Addr} {slEM skEM seEM : Array (Option Value)} {ocEM kVEM dcEM pmEM ctEM ckEM ceEM : Value} {vkEM : Array Value} {flEM : Str} {tfEM : Tok}
    {CRack CLadder : Addr} {tkLT tkLG tkMO tkO : Tok}
    (aCR : PySem.W.nsIn K mainGlobals "Rack" = some (some (.ref CRack)))
    (aCL : PySem.W.nsIn K mainGlobals "Ladder" = some (some (.ref CLadder)))
    (aN : PySem.W.nsIn K mainGlobals "check_name" = some (some (.ref fN)))
    (lN : K.lookup fN = some ⟨ocN, odN, .func (PySem.W.fnOf "check_name" "check_name" (defArgs sCkn) (defBody sCkn) (defScope sCkn) .none kVN dcN pmN anN cdN ctN), slN⟩)
    (cN : PySem.W.codeIn K cdN "check_name" = true)
    (kN : PySem.W.keepIn K (.ref fN) = true)
    (aK : PySem.W.nsIn K mainGlobals "check_not_negative" = some (some (.ref fK)))
    (lK : K.lookup fK = some ⟨ocK, odK, .func (PySem.W.fnOf "check_not_negative" "check_not_negative" (defArgs sChk) (defBody sChk) (defScope sChk) .none kVK dcK pmK anK cdK ctK), slK⟩)
    (cK : PySem.W.codeIn K cdK "check_not_negative" = true)
    (kK : PySem.W.keepIn K (.ref fK) = true)
    (aJ : PySem.W.nsIn K mainGlobals "joined_length" = some (some (.ref fJ)))
    (lJ : K.lookup fJ = some ⟨ocJ, odJ, .func (PySem.W.fnOf "joined_length" "joined_length" (defArgs sJoin) (defBody sJoin) (defScope sJoin) .none kVJ dcJ pmJ anJ cdJ ctJ), slJ⟩)
    (cJ : PySem.W.codeIn K cdJ "joined_length" = true)
    (kJ : PySem.W.keepIn K (.ref fJ) = true)
    (aMi : PySem.W.findIn K (.ref CLadder) "__init__" = some (some (.ref fMi)))
    (lMi : K.lookup fMi = some ⟨ocMi, odMi, .func (PySem.W.fnOf "__init__" "Ladder.__init__" (defArgs sInit) (defBody sInit) (defScope sInit) (.ref DTMi) kVMi dcMi pmMi anMi cdMi ctMi), slMi⟩)
    (cMi : PySem.W.codeIn K cdMi "Ladder.__init__" = true)
    (kMi : PySem.W.keepIn K (.ref fMi) = true)
    (iMi : PySem.W.isFn K (.ref fMi) = true)
    (dMi : K.lookup DTMi = some ⟨xoMi, xdMi, .seq #[.int 1 tkI] xnMi, xsMi⟩)
    (aRi : PySem.W.findIn K (.ref CRack) "__init__" = some (some (.ref fRi)))
    (lRi : K.lookup fRi = some ⟨ocRi, odRi, .func (PySem.W.fnOf "__init__" "Rack.__init__" (defArgs sRini) (defBody sRini) (defScope sRini) .none kVRi dcRi pmRi anRi cdRi ctRi), slRi⟩)
    (cRi : PySem.W.codeIn K cdRi "Rack.__init__" = true)
    (kRi : PySem.W.keepIn K (.ref fRi) = true)
    (iRi : PySem.W.isFn K (.ref fRi) = true)
    (aRp : PySem.W.findIn K (.ref CRack) "put" = some (some (.ref fRp)))
    (lRp : K.lookup fRp = some ⟨ocRp, odRp, .func (PySem.W.fnOf "put" "Rack.put" (defArgs sPut) (defBody sPut) (defScope sPut) .none kVRp dcRp pmRp anRp cdRp ctRp), slRp⟩)
    (cRp : PySem.W.codeIn K cdRp "Rack.put" = true)
    (kRp : PySem.W.keepIn K (.ref fRp) = true)
    (iRp : PySem.W.isFn K (.ref fRp) = true)
    (aRn : PySem.W.findIn K (.ref CRack) "names" = some (some (.ref fRn)))
    (lRn : K.lookup fRn = some ⟨ocRn, odRn, .func (PySem.W.fnOf "names" "Rack.names" (defArgs sNms) (defBody sNms) (defScope sNms) .none kVRn dcRn pmRn anRn cdRn ctRn), slRn⟩)
    (cRn : PySem.W.codeIn K cdRn "Rack.names" = true)
    (kRn : PySem.W.keepIn K (.ref fRn) = true)
    (iRn : PySem.W.isFn K (.ref fRn) = true)
    (aRl : PySem.W.findIn K (.ref CRack) "length_of" = some (some (.ref fRl)))
    (lRl : K.lookup fRl = some ⟨ocRl, odRl, .func (PySem.W.fnOf "length_of" "Rack.length_of" (defArgs sLof) (defBody sLof) (defScope sLof) .none kVRl dcRl pmRl anRl cdRl ctRl), slRl⟩)
    (cRl : PySem.W.codeIn K cdRl "Rack.length_of" = true)
    (kRl : PySem.W.keepIn K (.ref fRl) = true)
    (iRl : PySem.W.isFn K (.ref fRl) = true)
    (aRj : PySem.W.findIn K (.ref CRack) "joined" = some (some (.ref fRj)))
    (lRj : K.lookup fRj = some ⟨ocRj, odRj, .func (PySem.W.fnOf "joined" "Rack.joined" (defArgs sJnd) (defBody sJnd) (defScope sJnd) .none kVRj dcRj pmRj anRj cdRj ctRj), slRj⟩)
    (cRj : PySem.W.codeIn K cdRj "Rack.joined" = true)
    (kRj : PySem.W.keepIn K (.ref fRj) = true)
    (iRj : PySem.W.isFn K (.ref fRj) = true)
    (aLg : PySem.W.findIn K (.ref CRack) "_longer_joins" = some (some (.ref fLg)))
    (lLg : K.lookup fLg = some ⟨ocLg, odLg, .func (PySem.W.fnOf "_longer_joins" "Rack._longer_joins" (defArgs sLong) (defBody sLong) (defScope sLong) .none kVLg dcLg pmLg anLg cdLg ctLg), slLg⟩)
    (cLg : PySem.W.codeIn K cdLg "Rack._longer_joins" = true)
    (kLg : PySem.W.keepIn K (.ref fLg) = true)
    (iLg : PySem.W.isFn K (.ref fLg) = true)
    (aJo : PySem.W.findIn K (.ref CRack) "_joins" = some (some (.ref fJo)))
    (lJo : K.lookup fJo = some ⟨ocJo, odJo, .func (PySem.W.fnOf "_joins" "Rack._joins" (defArgs sJs) (defBody sJs) (defScope sJs) .none kVJo dcJo pmJo anJo cdJo ctJo), slJo⟩)
    (cJo : PySem.W.codeIn K cdJo "Rack._joins" = true)
    (kJo : PySem.W.keepIn K (.ref fJo) = true)
    (iJo : PySem.W.isFn K (.ref fJo) = true)
    (aLn : PySem.W.findIn K (.ref CRack) "lengths" = some (some (.ref fLn)))
    (lLn : K.lookup fLn = some ⟨ocLn, odLn, .func (PySem.W.fnOf "lengths" "Rack.lengths" (defArgs sLens) (defBody sLens) (defScope sLens) (.ref DTLn) kVLn dcLn pmLn anLn cdLn ctLn), slLn⟩)
    (cLn : PySem.W.codeIn K cdLn "Rack.lengths" = true)
    (kLn : PySem.W.keepIn K (.ref fLn) = true)
    (iLn : PySem.W.isFn K (.ref fLn) = true)
    (dLn : K.lookup DTLn = some ⟨xoLn, xdLn, .seq #[.int 1 tkLn] xnLn, xsLn⟩)
    (aNf : PySem.W.findIn K (.ref CRack) "names_for" = some (some (.ref fNf)))
    (lNf : K.lookup fNf = some ⟨ocNf, odNf, .func (PySem.W.fnOf "names_for" "Rack.names_for" (defArgs sNmF) (defBody sNmF) (defScope sNmF) (.ref DTNf) kVNf dcNf pmNf anNf cdNf ctNf), slNf⟩)
    (cNf : PySem.W.codeIn K cdNf "Rack.names_for" = true)
    (kNf : PySem.W.keepIn K (.ref fNf) = true)
    (iNf : PySem.W.isFn K (.ref fNf) = true)
    (dNf : K.lookup DTNf = some ⟨xoNf, xdNf, .seq #[.int 1 tkNf] xnNf, xsNf⟩)
    (aB : PySem.W.nsIn K mainGlobals "_law_box" = some (some (.ref fB)))
    (lB : K.lookup fB = some ⟨ocB, odB, .func (PySem.W.fnOf "_law_box" "_law_box" (defArgs sBox) (defBody sBox) (defScope sBox) .none kVB dcB pmB anB cdB ctB), slB⟩)
    (cB : PySem.W.codeIn K cdB "_law_box" = true)
    (kB : PySem.W.keepIn K (.ref fB) = true)
    (aT : PySem.W.nsIn K mainGlobals "_law_take" = some (some (.ref fT)))
    (lT : K.lookup fT = some ⟨ocT, odT, .func (PySem.W.fnOf "_law_take" "_law_take" (defArgs sTake) (defBody sTake) (defScope sTake) .none kVT dcT pmT anT cdT ctT), slT⟩)
    (cT : PySem.W.codeIn K cdT "_law_take" = true)
    (kT : PySem.W.keepIn K (.ref fT) = true)
    (aRk : PySem.W.nsIn K mainGlobals "_law_rack" = some (some (.ref fRk)))
    (lRk : K.lookup fRk = some ⟨ocRk, odRk, .func (PySem.W.fnOf "_law_rack" "_law_rack" (defArgs sRk) (defBody sRk) (defScope sRk) .none kVRk dcRk pmRk anRk cdRk ctRk), slRk⟩)
    (cRk : PySem.W.codeIn K cdRk "_law_rack" = true)
    (kRk : PySem.W.keepIn K (.ref fRk) = true)
    (aNb : PySem.W.nsIn K mainGlobals "_law_numbers" = some (some (.ref fNb)))
    (lNb : K.lookup fNb = some ⟨ocNb, odNb, .func (PySem.W.fnOf "_law_numbers" "_law_numbers" (defArgs sNbs) (defBody sNbs) (defScope sNbs) .none kVNb dcNb pmNb anNb cdNb ctNb), slNb⟩)
    (cNb : PySem.W.codeIn K cdNb "_law_numbers" = true)
    (kNb : PySem.W.keepIn K (.ref fNb) = true)
    (aSe : PySem.W.nsIn K mainGlobals "_law_sets" = some (some (.ref fSe)))
    (lSe : K.lookup fSe = some ⟨ocSe, odSe, .func (PySem.W.fnOf "_law_sets" "_law_sets" (defArgs sSets) (defBody sSets) (defScope sSets) .none kVSe dcSe pmSe anSe cdSe ctSe), slSe⟩)
    (cSe : PySem.W.codeIn K cdSe "_law_sets" = true)
    (kSe : PySem.W.keepIn K (.ref fSe) = true)
    (aLj : PySem.W.nsIn K mainGlobals "_law_joins" = some (some (.ref fLj)))
    (lLj : K.lookup fLj = some ⟨ocLj, odLj, .func (PySem.W.fnOf "_law_joins" "_law_joins" (defArgs sLjs) (defBody sLjs) (defScope sLjs) .none kVLj dcLj pmLj anLj cdLj ctLj), slLj⟩)
    (cLj : PySem.W.codeIn K cdLj "_law_joins" = true)
    (kLj : PySem.W.keepIn K (.ref fLj) = true)
    (aAs : PySem.W.nsIn K mainGlobals "_law_ascending" = some (some (.ref fAs)))
    (lAs : K.lookup fAs = some ⟨ocAs, odAs, .func (PySem.W.fnOf "_law_ascending" "_law_ascending" (defArgs sAsc) (defBody sAsc) (defScope sAsc) .none kVAs dcAs pmAs anAs cdAs ctAs), slAs⟩)
    (cAs : PySem.W.codeIn K cdAs "_law_ascending" = true)
    (kAs : PySem.W.keepIn K (.ref fAs) = true)
    (aFi : PySem.W.nsIn K mainGlobals "_law_first" = some (some (.ref fFi)))
    (lFi : K.lookup fFi = some ⟨ocFi, odFi, .func (PySem.W.fnOf "_law_first" "_law_first" (defArgs sFst) (defBody sFst) (defScope sFst) .none kVFi dcFi pmFi anFi cdFi ctFi), slFi⟩)
    (cFi : PySem.W.codeIn K cdFi "_law_first" = true)
    (kFi : PySem.W.keepIn K (.ref fFi) = true)
    (aL : PySem.W.nsIn K mainGlobals "law" = some (some (.ref fL)))
    (lL : K.lookup fL = some ⟨ocL, odL, .func (PySem.W.fnOf "law" "law" (defArgs sLaw) (defBody sLaw) (defScope sLaw) .none kVL dcL pmL anL cdL ctL), slL⟩)
    (cL : PySem.W.codeIn K cdL "law" = true)
    (kL : PySem.W.keepIn K (.ref fL) = true)
    (opq : PySem.W.nsIn K cStatics "thirdparty.any" = some none)
    (nsup : PySem.W.nsIn K mainGlobals "super" = some none)
    (aEB : PySem.W.nsIn K mainGlobals "BadNumber" = some (some (.ref CEB)))
    (xEB : K.lookup CEB = some (excClassObj nmEB qEB CEB NEB bsEB [.ref BEB, .type "ValueError", .type "Exception", .type "BaseException", .type "object"] true snEB subEB abEB colEB ddEB m0EB m1EB m2EB m3EB m5EB "ValueError.__new__"))
    (saEB : PySem.W.findIn K (.ref CEB) "__setattr__" = some (some (.builtin "object.__setattr__")))
    (gaEB : PySem.W.findIn K (.ref CEB) "__getattribute__" = some (some (.builtin "BaseException.__getattribute__")))
    (ggEB : PySem.W.findIn K (.ref CEB) "__getattr__" = some none)
    (nbEB : PySem.W.findIn K (.ref CEB) "value" = some none)
    (iEB : PySem.W.findIn K (.ref CEB) "__init__" = some (some (.ref fiEB)))
    (tEB : PySem.W.typeIn K (.ref fiEB) = some (.type "function"))
    (lEB : K.lookup fiEB = some ⟨ocEB, odEB, .func (PySem.W.fnX "__init__" "BadNumber.__init__" (defArgs sErr) (defBody sErr) (defScope sErr) [("__class__", ccEB)] .none kVEB dcEB pmEB anEB (.ref cdEB) ctEB), slEB⟩)
    (coEB : PySem.W.codeIn K (.ref cdEB) "BadNumber.__init__" = true)
    (lkEB : K.lookup cdEB = some ⟨ckEB, dkEB, .fields vkEB, skEB⟩)
    (vkEBx : vkEB[2]? = some (.str flEB tfEB))
    (feEB : ((P.main.file : Str) == flEB) = true)
    (leEB : K.lookup ccEB = some ⟨ceEB, deEB, .cell (some (.ref CEB)), seEB⟩)
    (mrEB : PySem.W.mroIn K CEB (.ref CEB) = some true)
    (upEB : PySem.W.ks_superIn K CEB CEB "__init__" = some (some (.builtin "ValueError.__init__")))
    (svEB : PySem.W.subIn K (.ref CEB) (.type "ValueError") = some true)
    (kcEB : PySem.W.keepIn K (.ref CEB) = true)
    (ebEB : PySem.W.subIn K (.ref CEB) (.type "BaseException") = some true)
    (tyEB : PySem.W.typeIn K (.ref CEB) = some (.type "type"))
    (hdEB : PySem.W.hasDictIn K CEB = true)
    (ssEB : PySem.W.subIn K (.ref CEB) (.ref CEB) = some true)
    (aEN : PySem.W.nsIn K mainGlobals "BadName" = some (some (.ref CEN)))
    (xEN : K.lookup CEN = some (excClassObj nmEN qEN CEN NEN bsEN [.ref BEN, .type "ValueError", .type "Exception", .type "BaseException", .type "object"] true snEN subEN abEN colEN ddEN m0EN m1EN m2EN m3EN m5EN "ValueError.__new__"))
    (saEN : PySem.W.findIn K (.ref CEN) "__setattr__" = some (some (.builtin "object.__setattr__")))
    (gaEN : PySem.W.findIn K (.ref CEN) "__getattribute__" = some (some (.builtin "BaseException.__getattribute__")))
    (ggEN : PySem.W.findIn K (.ref CEN) "__getattr__" = some none)
    (nbEN : PySem.W.findIn K (.ref CEN) "name" = some none)
    (iEN : PySem.W.findIn K (.ref CEN) "__init__" = some (some (.ref fiEN)))
    (tEN : PySem.W.typeIn K (.ref fiEN) = some (.type "function"))
    (lEN : K.lookup fiEN = some ⟨ocEN, odEN, .func (PySem.W.fnX "__init__" "BadName.__init__" (defArgs sEN) (defBody sEN) (defScope sEN) [("__class__", ccEN)] .none kVEN dcEN pmEN anEN (.ref cdEN) ctEN), slEN⟩)
    (coEN : PySem.W.codeIn K (.ref cdEN) "BadName.__init__" = true)
    (lkEN : K.lookup cdEN = some ⟨ckEN, dkEN, .fields vkEN, skEN⟩)
    (vkENx : vkEN[2]? = some (.str flEN tfEN))
    (feEN : ((P.main.file : Str) == flEN) = true)
    (leEN : K.lookup ccEN = some ⟨ceEN, deEN, .cell (some (.ref CEN)), seEN⟩)
    (mrEN : PySem.W.mroIn K CEN (.ref CEN) = some true)
    (upEN : PySem.W.ks_superIn K CEN CEN "__init__" = some (some (.builtin "ValueError.__init__")))
    (svEN : PySem.W.subIn K (.ref CEN) (.type "ValueError") = some true)
    (kcEN : PySem.W.keepIn K (.ref CEN) = true)
    (ebEN : PySem.W.subIn K (.ref CEN) (.type "BaseException") = some true)
    (tyEN : PySem.W.typeIn K (.ref CEN) = some (.type "type"))
    (hdEN : PySem.W.hasDictIn K CEN = true)
    (ssEN : PySem.W.subIn K (.ref CEN) (.ref CEN) = some true)
    (aET : PySem.W.nsIn K mainGlobals "TakenName" = some (some (.ref CET)))
    (xET : K.lookup CET = some (excClassObj nmET qET CET NET bsET [.ref BET, .type "ValueError", .type "Exception", .type "BaseException", .type "object"] true snET subET abET colET ddET m0ET m1ET m2ET m3ET m5ET "ValueError.__new__"))
    (saET : PySem.W.findIn K (.ref CET) "__setattr__" = some (some (.builtin "object.__setattr__")))
    (gaET : PySem.W.findIn K (.ref CET) "__getattribute__" = some (some (.builtin "BaseException.__getattribute__")))
    (ggET : PySem.W.findIn K (.ref CET) "__getattr__" = some none)
    (nbET : PySem.W.findIn K (.ref CET) "name" = some none)
    (iET : PySem.W.findIn K (.ref CET) "__init__" = some (some (.ref fiET)))
    (tET : PySem.W.typeIn K (.ref fiET) = some (.type "function"))
    (lET : K.lookup fiET = some ⟨ocET, odET, .func (PySem.W.fnX "__init__" "TakenName.__init__" (defArgs sET) (defBody sET) (defScope sET) [("__class__", ccET)] .none kVET dcET pmET anET (.ref cdET) ctET), slET⟩)
    (coET : PySem.W.codeIn K (.ref cdET) "TakenName.__init__" = true)
    (lkET : K.lookup cdET = some ⟨ckET, dkET, .fields vkET, skET⟩)
    (vkETx : vkET[2]? = some (.str flET tfET))
    (feET : ((P.main.file : Str) == flET) = true)
    (leET : K.lookup ccET = some ⟨ceET, deET, .cell (some (.ref CET)), seET⟩)
    (mrET : PySem.W.mroIn K CET (.ref CET) = some true)
    (upET : PySem.W.ks_superIn K CET CET "__init__" = some (some (.builtin "ValueError.__init__")))
    (svET : PySem.W.subIn K (.ref CET) (.type "ValueError") = some true)
    (kcET : PySem.W.keepIn K (.ref CET) = true)
    (ebET : PySem.W.subIn K (.ref CET) (.type "BaseException") = some true)
    (tyET : PySem.W.typeIn K (.ref CET) = some (.type "type"))
    (hdET : PySem.W.hasDictIn K CET = true)
    (ssET : PySem.W.subIn K (.ref CET) (.ref CET) = some true)
    (aEU : PySem.W.nsIn K mainGlobals "UnknownName" = some (some (.ref CEU)))
    (xEU : K.lookup CEU = some (excClassObj nmEU qEU CEU NEU bsEU [.ref BEU, .type "ValueError", .type "Exception", .type "BaseException", .type "object"] true snEU subEU abEU colEU ddEU m0EU m1EU m2EU m3EU m5EU "ValueError.__new__"))
    (saEU : PySem.W.findIn K (.ref CEU) "__setattr__" = some (some (.builtin "object.__setattr__")))
    (gaEU : PySem.W.findIn K (.ref CEU) "__getattribute__" = some (some (.builtin "BaseException.__getattribute__")))
    (ggEU : PySem.W.findIn K (.ref CEU) "__getattr__" = some none)
    (nbEU : PySem.W.findIn K (.ref CEU) "name" = some none)
    (iEU : PySem.W.findIn K (.ref CEU) "__init__" = some (some (.ref fiEU)))
    (tEU : PySem.W.typeIn K (.ref fiEU) = some (.type "function"))
    (lEU : K.lookup fiEU = some ⟨ocEU, odEU, .func (PySem.W.fnX "__init__" "UnknownName.__init__" (defArgs sEU) (defBody sEU) (defScope sEU) [("__class__", ccEU)] .none kVEU dcEU pmEU anEU (.ref cdEU) ctEU), slEU⟩)
    (coEU : PySem.W.codeIn K (.ref cdEU) "UnknownName.__init__" = true)
    (lkEU : K.lookup cdEU = some ⟨ckEU, dkEU, .fields vkEU, skEU⟩)
    (vkEUx : vkEU[2]? = some (.str flEU tfEU))
    (feEU : ((P.main.file : Str) == flEU) = true)
    (leEU : K.lookup ccEU = some ⟨ceEU, deEU, .cell (some (.ref CEU)), seEU⟩)
    (mrEU : PySem.W.mroIn K CEU (.ref CEU) = some true)
    (upEU : PySem.W.ks_superIn K CEU CEU "__init__" = some (some (.builtin "ValueError.__init__")))
    (svEU : PySem.W.subIn K (.ref CEU) (.type "ValueError") = some true)
    (kcEU : PySem.W.keepIn K (.ref CEU) = true)
    (ebEU : PySem.W.subIn K (.ref CEU) (.type "BaseException") = some true)
    (tyEU : PySem.W.typeIn K (.ref CEU) = some (.type "type"))
    (hdEU : PySem.W.hasDictIn K CEU = true)
    (ssEU : PySem.W.subIn K (.ref CEU) (.ref CEU) = some true)
    (aEM : PySem.W.nsIn K mainGlobals "TooMany" = some (some (.ref CEM)))
    (xEM : K.lookup CEM = some (excClassObj nmEM qEM CEM NEM bsEM [.ref BEM, .type "ValueError", .type "Exception", .type "BaseException", .type "object"] true snEM subEM abEM colEM ddEM m0EM m1EM m2EM m3EM m5EM "ValueError.__new__"))
    (saEM : PySem.W.findIn K (.ref CEM) "__setattr__" = some (some (.builtin "object.__setattr__")))
    (gaEM : PySem.W.findIn K (.ref CEM) "__getattribute__" = some (some (.builtin "BaseException.__getattribute__")))
    (ggEM : PySem.W.findIn K (.ref CEM) "__getattr__" = some none)
    (nbEM : PySem.W.findIn K (.ref CEM) "count" = some none)
    (iEM : PySem.W.findIn K (.ref CEM) "__init__" = some (some (.ref fiEM)))
    (tEM : PySem.W.typeIn K (.ref fiEM) = some (.type "function"))
    (lEM : K.lookup fiEM = some ⟨ocEM, odEM, .func (PySem.W.fnX "__init__" "TooMany.__init__" (defArgs sEM) (defBody sEM) (defScope sEM) [("__class__", ccEM)] .none kVEM dcEM pmEM anEM (.ref cdEM) ctEM), slEM⟩)
    (coEM : PySem.W.codeIn K (.ref cdEM) "TooMany.__init__" = true)
    (lkEM : K.lookup cdEM = some ⟨ckEM, dkEM, .fields vkEM, skEM⟩)
    (vkEMx : vkEM[2]? = some (.str flEM tfEM))
    (feEM : ((P.main.file : Str) == flEM) = true)
    (leEM : K.lookup ccEM = some ⟨ceEM, deEM, .cell (some (.ref CEM)), seEM⟩)
    (mrEM : PySem.W.mroIn K CEM (.ref CEM) = some true)
    (upEM : PySem.W.ks_superIn K CEM CEM "__init__" = some (some (.builtin "ValueError.__init__")))
    (svEM : PySem.W.subIn K (.ref CEM) (.type "ValueError") = some true)
    (kcEM : PySem.W.keepIn K (.ref CEM) = true)
    (ebEM : PySem.W.subIn K (.ref CEM) (.type "BaseException") = some true)
    (tyEM : PySem.W.typeIn K (.ref CEM) = some (.type "type"))
    (hdEM : PySem.W.hasDictIn K CEM = true)
    (ssEM : PySem.W.subIn K (.ref CEM) (.ref CEM) = some true)
    (n_len : PySem.W.nsIn K mainGlobals "len" = some none)
    (n_int : PySem.W.nsIn K mainGlobals "int" = some none)
    (n_isinstance : PySem.W.nsIn K mainGlobals "isinstance" = some none)
    (n_bool : PySem.W.nsIn K mainGlobals "bool" = some none)
    (n_range : PySem.W.nsIn K mainGlobals "range" = some none)
    (n_list : PySem.W.nsIn K mainGlobals "list" = some none)
    (n_sum : PySem.W.nsIn K mainGlobals "sum" = some none)
    (n_sorted : PySem.W.nsIn K mainGlobals "sorted" = some none)
    (n_min : PySem.W.nsIn K mainGlobals "min" = some none)
    (cPG : PySem.W.plainGet K CRack Str.empty = true)
    (cHD : PySem.W.hasDictIn K CRack = true)
    (cPO : PySem.W.plainOver K CRack = true)
    (cSA : PySem.W.findIn K (.ref CRack) "__setattr__" = some (some (.builtin "object.__setattr__")))
    (cMK : PySem.W.makesIn K CRack = true)
    (cKP : PySem.W.keepIn K (.ref CRack) = true)
    (dPG : PySem.W.plainGet K CLadder Str.empty = true)
    (dHD : PySem.W.hasDictIn K CLadder = true)
    (dPO : PySem.W.plainOver K CLadder = true)
    (dSA : PySem.W.findIn K (.ref CLadder) "__setattr__" = some (some (.builtin "object.__setattr__")))
    (dMK : PySem.W.makesIn K CLadder = true)
    (dKP : PySem.W.keepIn K (.ref CLadder) = true)
    (cNL : PySem.W.findIn K (.ref CRack) "_lengths" = some none)
    (dNL : PySem.W.findIn K (.ref CLadder) "length" = some none)
    (dNP : PySem.W.findIn K (.ref CLadder) "parts" = some none)
    (tLT : PySem.W.nsIn K mainGlobals "LETTERS" = some (some (.str letters tkLT)))
    (tLG : PySem.W.nsIn K mainGlobals "LONGEST_NAME" = some (some (.int 12 tkLG)))
    (tMO : PySem.W.nsIn K mainGlobals "MOST_LADDERS" = some (some (.int 8 tkMO)))
    (rdD : PySem.W.readsIn K CLadder (.type "type") = true)
    (gaD : PySem.W.specialIn K (.ref CLadder) "__getattribute__" = some (some (.builtin "type.__getattribute__")))
    (ovD : PySem.W.findCls K (.ref CLadder) (.type "type") "OVERLAP" = some (.val (.int 1 tkO)))
    (gfRj : PySem.W.specialIn K (.ref fRj) "__get__" = some (some (.builtin "function.__get__")))
    (tkRj : PySem.W.takesIn K (.ref fRj) = some false)
    (fiRj : PySem.W.fnIn K fRj = true) :
    ∃ fd : FuncData, (∀ (s : Shared) (v : Value), BindsTo s fd ⟨[v], []⟩ [("_law_script", v)]) ∧ ∀ base : Heap, K.In base → base.Ns mainGlobals mg → FnOk P w K mg base CX0 10 fa fd ["_law_script"] (spLaw K) := by
  have e := hfa.symm.trans (PySem.W.mg_of X G aL)
  cases e
  have FN := fun_mk (st := sCkn) lN cN kN
  have bN := FN.binds (ps := ["name"]) fun _ _ _ _ _ _ us hl => match us, hl with | [_], _ => rfl
  have FK := fun_mk (st := sChk) lK cK kK
  have bK := FK.binds (ps := ["number"]) fun _ _ _ _ _ _ us hl => match us, hl with | [_], _ => rfl
  have FJ := fun_mk (st := sJoin) lJ cJ kJ
  have bJ := trivial
  have FMi : FunD K "__init__" "Ladder.__init__" (defArgs sInit) (defBody sInit) (defScope sInit) [.int 1] [] fMi _ := ⟨⟨ocMi, odMi, .ref DTMi, kVMi, dcMi, pmMi, anMi, cdMi, ctMi, slMi, rfl, lMi, cMi, .inr ⟨by simp, DTMi, _, [.int 1 tkI], xnMi, rfl, dMi, rfl, .cons (⟨_, rfl⟩) (.nil)⟩, .inl rfl⟩, kMi⟩
  obtain ⟨dsMi0, vdMi0, bMi0⟩ := FMi.binds1 (ps := ["self", "length", "parts"]) 2 0 (by simp) (by decide) fun T kV doc pm an cdv ct us its hu hi => match us, hu, its, hi with | [_, _], _, [_], _ => ⟨_, rfl, rfl⟩
  obtain ⟨dsMi1, vdMi1, bMi1⟩ := FMi.binds1 (ps := ["self", "length", "parts"]) 3 1 (by simp) (by decide) fun T kV doc pm an cdv ct us its hu hi => match us, hu, its, hi with | [_, _, _], _, [_], _ => ⟨_, rfl, rfl⟩
  cases vdMi1
  have FRi := fun_mk (st := sRini) lRi cRi kRi
  have bRi := trivial
  have FRp := fun_mk (st := sPut) lRp cRp kRp
  have bRp := FRp.binds (ps := ["self", "name", "length"]) fun _ _ _ _ _ _ us hl => match us, hl with | [_, _, _], _ => rfl
  have FRn := fun_mk (st := sNms) lRn cRn kRn
  have bRn := FRn.binds (ps := ["self"]) fun _ _ _ _ _ _ us hl => match us, hl with | [_], _ => rfl
  have FRl := fun_mk (st := sLof) lRl cRl kRl
  have bRl := FRl.binds (ps := ["self", "name"]) fun _ _ _ _ _ _ us hl => match us, hl with | [_, _], _ => rfl
  have FRj := fun_mk (st := sJnd) lRj cRj kRj
  have bRj := trivial
  have FLg := fun_mk (st := sLong) lLg cLg kLg
  have bLg := FLg.binds (ps := ["self", "order", "joins"]) fun _ _ _ _ _ _ us hl => match us, hl with | [_, _, _], _ => rfl
  have FJo := fun_mk (st := sJs) lJo cJo kJo
  have bJo := FJo.binds (ps := ["self", "most"]) fun _ _ _ _ _ _ us hl => match us, hl with | [_, _], _ => rfl
  have FLn : FunD K "lengths" "Rack.lengths" (defArgs sLens) (defBody sLens) (defScope sLens) [.int 1] [] fLn _ := ⟨⟨ocLn, odLn, .ref DTLn, kVLn, dcLn, pmLn, anLn, cdLn, ctLn, slLn, rfl, lLn, cLn, .inr ⟨by simp, DTLn, _, [.int 1 tkLn], xnLn, rfl, dLn, rfl, .cons (⟨_, rfl⟩) (.nil)⟩, .inl rfl⟩, kLn⟩
  obtain ⟨dsLn0, vdLn0, bLn0⟩ := FLn.binds1 (ps := ["self", "most"]) 1 0 (by simp) (by decide) fun T kV doc pm an cdv ct us its hu hi => match us, hu, its, hi with | [_], _, [_], _ => ⟨_, rfl, rfl⟩
  obtain ⟨dsLn1, vdLn1, bLn1⟩ := FLn.binds1 (ps := ["self", "most"]) 2 1 (by simp) (by decide) fun T kV doc pm an cdv ct us its hu hi => match us, hu, its, hi with | [_, _], _, [_], _ => ⟨_, rfl, rfl⟩
  cases vdLn1
  have FNf : FunD K "names_for" "Rack.names_for" (defArgs sNmF) (defBody sNmF) (defScope sNmF) [.int 1] [] fNf _ := ⟨⟨ocNf, odNf, .ref DTNf, kVNf, dcNf, pmNf, anNf, cdNf, ctNf, slNf, rfl, lNf, cNf, .inr ⟨by simp, DTNf, _, [.int 1 tkNf], xnNf, rfl, dNf, rfl, .cons (⟨_, rfl⟩) (.nil)⟩, .inl rfl⟩, kNf⟩
  obtain ⟨dsNf0, vdNf0, bNf0⟩ := FNf.binds1 (ps := ["self", "length", "most"]) 2 0 (by simp) (by decide) fun T kV doc pm an cdv ct us its hu hi => match us, hu, its, hi with | [_, _], _, [_], _ => ⟨_, rfl, rfl⟩
  obtain ⟨dsNf1, vdNf1, bNf1⟩ := FNf.binds1 (ps := ["self", "length", "most"]) 3 1 (by simp) (by decide) fun T kV doc pm an cdv ct us its hu hi => match us, hu, its, hi with | [_, _, _], _, [_], _ => ⟨_, rfl, rfl⟩
  cases vdNf1
  have FB := fun_mk (st := sBox) lB cB kB
  have bB := FB.binds (ps := ["_law_script"]) fun _ _ _ _ _ _ us hl => match us, hl with | [_], _ => rfl
  have FT := fun_mk (st := sTake) lT cT kT
  have bT := FT.binds (ps := ["_law_box_here", "_law_size"]) fun _ _ _ _ _ _ us hl => match us, hl with | [_, _], _ => rfl
  have FRk := fun_mk (st := sRk) lRk cRk kRk
  have bRk := FRk.binds (ps := ["_law_box_here", "_law_many"]) fun _ _ _ _ _ _ us hl => match us, hl with | [_, _], _ => rfl
  have FNb := fun_mk (st := sNbs) lNb cNb kNb
  have bNb := FNb.binds (ps := ["_law_row", "_law_due"]) fun _ _ _ _ _ _ us hl => match us, hl with | [_, _], _ => rfl
  have FSe := fun_mk (st := sSets) lSe cSe kSe
  have bSe := FSe.binds (ps := ["_law_many"]) fun _ _ _ _ _ _ us hl => match us, hl with | [_], _ => rfl
  have FLj := fun_mk (st := sLjs) lLj cLj kLj
  have bLj := FLj.binds (ps := ["_law_rows", "_law_count"]) fun _ _ _ _ _ _ us hl => match us, hl with | [_, _], _ => rfl
  have FAs := fun_mk (st := sAsc) lAs cAs kAs
  have bAs := FAs.binds (ps := ["_law_joins_here"]) fun _ _ _ _ _ _ us hl => match us, hl with | [_], _ => rfl
  have FFi := fun_mk (st := sFst) lFi cFi kFi
  have bFi := FFi.binds (ps := ["_law_joins_here", "_law_length"]) fun _ _ _ _ _ _ us hl => match us, hl with | [_, _], _ => rfl
  have FL := fun_mk (st := sLaw) lL cL kL
  have bL := FL.binds (ps := ["_law_script"]) fun _ _ _ _ _ _ us hl => match us, hl with | [_], _ => rfl
  have OEB : OexC K CEB := ⟨⟨nmEB, qEB, NEB, bsEB, _, snEB, subEB, abEB, colEB, ddEB, m0EB, m1EB, m2EB, m3EB, m5EB, xEB, by rfl⟩, saEB, ebEB, tyEB, kcEB⟩
  have TEB : ErrTxt P K mg CEB fiEB cdEB ccEB "BadNumber.__init__" sErr := {
    oex := OEB
    iC := iEB
    tI := tEB
    fn := ⟨_, _, _, _, _, _, _, _, lEB⟩
    code := coEB
    file := ⟨_, vkEB, flEB, tfEB, lkEB, rfl, vkEBx, feEB⟩
    cell := ⟨_, leEB, rfl⟩
    self := mrEB
    opaque_ := opq
    up := upEB
    isVE := svEB
    top := htop
    noSup := PySem.W.mg_none_of X G nsup }
  have REB : ∀ base, ErrOk P w K mg base "BadNumber" CEB "value" okInt := fun base => by
    obtain ⟨fd, hfd, hb⟩ := err_int (w := w) (base := base) TEB rfl rfl (nscope_by (by decide +kernel)) (fun _ _ _ _ _ _ _ us hl => match us, hl with | [_, _], _ => rfl) rfl rfl rfl (by decide) (by decide) (by decide) nbEB
    exact ⟨OEB, ⟨gaEB, ggEB, ebEB, hdEB⟩, PySem.W.mg_of X G aEB, nbEB, PySem.W.exm_ref ebEB hdEB tyEB ssEB, ⟨_, fd, iEB, tEB, hfd, hb⟩⟩
  have OEN : OexC K CEN := ⟨⟨nmEN, qEN, NEN, bsEN, _, snEN, subEN, abEN, colEN, ddEN, m0EN, m1EN, m2EN, m3EN, m5EN, xEN, by rfl⟩, saEN, ebEN, tyEN, kcEN⟩
  have TEN : ErrTxt P K mg CEN fiEN cdEN ccEN "BadName.__init__" sEN := {
    oex := OEN
    iC := iEN
    tI := tEN
    fn := ⟨_, _, _, _, _, _, _, _, lEN⟩
    code := coEN
    file := ⟨_, vkEN, flEN, tfEN, lkEN, rfl, vkENx, feEN⟩
    cell := ⟨_, leEN, rfl⟩
    self := mrEN
    opaque_ := opq
    up := upEN
    isVE := svEN
    top := htop
    noSup := PySem.W.mg_none_of X G nsup }
  have REN : ∀ base, ErrOk P w K mg base "BadName" CEN "name" okTxt := fun base => by
    obtain ⟨fd, hfd, hb⟩ := err_txt (w := w) (base := base) TEN rfl rfl (nscope_by (by decide +kernel)) (fun _ _ _ _ _ _ _ us hl => match us, hl with | [_, _], _ => rfl) rfl rfl rfl (by decide) (by decide) (by decide) nbEN
    exact ⟨OEN, ⟨gaEN, ggEN, ebEN, hdEN⟩, PySem.W.mg_of X G aEN, nbEN, PySem.W.exm_ref ebEN hdEN tyEN ssEN, ⟨_, fd, iEN, tEN, hfd, hb⟩⟩
  have OET : OexC K CET := ⟨⟨nmET, qET, NET, bsET, _, snET, subET, abET, colET, ddET, m0ET, m1ET, m2ET, m3ET, m5ET, xET, by rfl⟩, saET, ebET, tyET, kcET⟩
  have TET : ErrTxt P K mg CET fiET cdET ccET "TakenName.__init__" sET := {
    oex := OET
    iC := iET
    tI := tET
    fn := ⟨_, _, _, _, _, _, _, _, lET⟩
    code := coET
    file := ⟨_, vkET, flET, tfET, lkET, rfl, vkETx, feET⟩
    cell := ⟨_, leET, rfl⟩
    self := mrET
    opaque_ := opq
    up := upET
    isVE := svET
    top := htop
    noSup := PySem.W.mg_none_of X G nsup }
  have RET : ∀ base, ErrOk P w K mg base "TakenName" CET "name" okTxt := fun base => by
    obtain ⟨fd, hfd, hb⟩ := err_txt (w := w) (base := base) TET rfl rfl (nscope_by (by decide +kernel)) (fun _ _ _ _ _ _ _ us hl => match us, hl with | [_, _], _ => rfl) rfl rfl rfl (by decide) (by decide) (by decide) nbET
    exact ⟨OET, ⟨gaET, ggET, ebET, hdET⟩, PySem.W.mg_of X G aET, nbET, PySem.W.exm_ref ebET hdET tyET ssET, ⟨_, fd, iET, tET, hfd, hb⟩⟩
  have OEU : OexC K CEU := ⟨⟨nmEU, qEU, NEU, bsEU, _, snEU, subEU, abEU, colEU, ddEU, m0EU, m1EU, m2EU, m3EU, m5EU, xEU, by rfl⟩, saEU, ebEU, tyEU, kcEU⟩
  have TEU : ErrTxt P K mg CEU fiEU cdEU ccEU "UnknownName.__init__" sEU := {
    oex := OEU
    iC := iEU
    tI := tEU
    fn := ⟨_, _, _, _, _, _, _, _, lEU⟩
    code := coEU
    file := ⟨_, vkEU, flEU, tfEU, lkEU, rfl, vkEUx, feEU⟩
    cell := ⟨_, leEU, rfl⟩
    self := mrEU
    opaque_ := opq
    up := upEU
    isVE := svEU
    top := htop
    noSup := PySem.W.mg_none_of X G nsup }
  have REU : ∀ base, ErrOk P w K mg base "UnknownName" CEU "name" okTxt := fun base => by
    obtain ⟨fd, hfd, hb⟩ := err_txt (w := w) (base := base) TEU rfl rfl (nscope_by (by decide +kernel)) (fun _ _ _ _ _ _ _ us hl => match us, hl with | [_, _], _ => rfl) rfl rfl rfl (by decide) (by decide) (by decide) nbEU
    exact ⟨OEU, ⟨gaEU, ggEU, ebEU, hdEU⟩, PySem.W.mg_of X G aEU, nbEU, PySem.W.exm_ref ebEU hdEU tyEU ssEU, ⟨_, fd, iEU, tEU, hfd, hb⟩⟩
  have OEM : OexC K CEM := ⟨⟨nmEM, qEM, NEM, bsEM, _, snEM, subEM, abEM, colEM, ddEM, m0EM, m1EM, m2EM, m3EM, m5EM, xEM, by rfl⟩, saEM, ebEM, tyEM, kcEM⟩
  have TEM : ErrTxt P K mg CEM fiEM cdEM ccEM "TooMany.__init__" sEM := {
    oex := OEM
    iC := iEM
    tI := tEM
    fn := ⟨_, _, _, _, _, _, _, _, lEM⟩
    code := coEM
    file := ⟨_, vkEM, flEM, tfEM, lkEM, rfl, vkEMx, feEM⟩
    cell := ⟨_, leEM, rfl⟩
    self := mrEM
    opaque_ := opq
    up := upEM
    isVE := svEM
    top := htop
    noSup := PySem.W.mg_none_of X G nsup }
  have REM : ∀ base, ErrOk P w K mg base "TooMany" CEM "count" okInt := fun base => by
    obtain ⟨fd, hfd, hb⟩ := err_int (w := w) (base := base) TEM rfl rfl (nscope_by (by decide +kernel)) (fun _ _ _ _ _ _ _ us hl => match us, hl with | [_, _], _ => rfl) rfl rfl rfl (by decide) (by decide) (by decide) nbEM
    exact ⟨OEM, ⟨gaEM, ggEM, ebEM, hdEM⟩, PySem.W.mg_of X G aEM, nbEM, PySem.W.exm_ref ebEM hdEM tyEM ssEM, ⟨_, fd, iEM, tEM, hfd, hb⟩⟩
  exact ⟨PySem.W.fnOf "law" "law" (defArgs sLaw) (defBody sLaw) (defScope sLaw) .none kVL dcL pmL anL cdL ctL, fun s v => .of_eq rfl, fun base _ _ => by
    have cl : Cls K CRack := ⟨cPG, cHD, cPO, cSA⟩
    have cl2 : Cls K CLadder := ⟨dPG, dHD, dPO, dSA⟩
    have bt : BoxTxt K mg := ⟨PySem.W.mg_none_of X G n_len, PySem.W.mg_none_of X G n_int⟩
    have RT : RackTxt K mg CRack fN fK := { letters := ⟨_, PySem.W.mg_of X G tLT⟩, longest := ⟨_, PySem.W.mg_of X G tLG⟩, most := ⟨_, PySem.W.mg_of X G tMO⟩, ckn := PySem.W.mg_of X G aN, chk := PySem.W.mg_of X G aK, len := PySem.W.mg_none_of X G n_len, list := PySem.W.mg_none_of X G n_list, cl := cl, nD := cNL }
    have OT : OverTxt K mg CLadder (.type "type") (.int 1 tkO) := { g := PySem.W.mg_of X G aCL, cr := ⟨rdD, gaD⟩, cv := ⟨ovD, ⟨_, rfl⟩⟩, len := PySem.W.mg_none_of X G n_len, sum := PySem.W.mg_none_of X G n_sum }
    have LI : LadI K mg CLadder fK fJ := { lad := PySem.W.mg_of X G aCL, chk := PySem.W.mg_of X G aK, join := PySem.W.mg_of X G aJ, cl := cl2, nL := dNL, nP := dNP }
    have MP : Meth K CRack "put" fRp := ⟨aRp, iRp, kRp⟩
    have MN : Meth K CRack "names" fRn := ⟨aRn, iRn, kRn⟩
    have ML : Meth K CRack "length_of" fRl := ⟨aRl, iRl, kRl⟩
    have MJ : Meth K CRack "joined" fRj := ⟨aRj, iRj, kRj⟩
    have MLg : Meth K CRack "_longer_joins" fLg := ⟨aLg, iLg, kLg⟩
    have MJo : Meth K CRack "_joins" fJo := ⟨aJo, iJo, kJo⟩
    have MLn : Meth K CRack "lengths" fLn := ⟨aLn, iLn, kLn⟩
    have MNf : Meth K CRack "names_for" fNf := ⟨aNf, iNf, kNf⟩
    have BJ : BMeth K CRack "joined" fRj := { mt := MJ, gf := gfRj, tk := tkRj, cp := by decide +kernel, fi := fiRj }
    have MKL : Mk K CLadder fMi := ⟨dMK, aMi, iMi, dKP⟩
    have MKR : Mk K CRack fRi := ⟨cMK, aRi, iRi, cKP⟩
    have GP0 := ok_put (P := P) (w := w) (base := base) (C := (⟨CEN, CET, CEB, CEM, CEU⟩ : Errs)) FRp (REN base) (RET base) (REB base) (REM base) FN bN FK bK RT
    have GP := Own.fnr0 GP0 bRp
    have GNs := ok_nms (P := P) (w := w) (base := base) FRn RT
    have GLo := Own.fnr0 (ok_lof (P := P) (w := w) (base := base) (C := (⟨CEN, CET, CEB, CEM, CEU⟩ : Errs)) FRl (REU base) RT) bRl
    have GJ := ok_join (P := P) (w := w) (base := base) FJ (REB base) OT (fun rest => by cases rest <;> rfl)
    have GI := Own.fnr0 (ok_init (P := P) (w := w) (base := base) FMi (REB base) FK bK LI) bMi1
    have G0 := ok_rini (ks := []) FRi (REM base) GP0 MP bRp (by decide +kernel) (by decide) (fun us ws hu hw => match us, hu, ws, hw with | [_], _, [], _ => rfl) RT
    have GJn := ok_jnd (P := P) (w := w) (base := base) (C := (⟨CEN, CET, CEB, CEM, CEU⟩ : Errs)) FRj (RET base) (REB base) GLo ML GJ FJ.kp MKL GI RT LI (fun us rest hu => match us, hu with | [_], _ => (by cases rest <;> rfl))
    have JT : JTxt mg := { len := PySem.W.mg_none_of X G n_len, range := PySem.W.mg_none_of X G n_range, list := PySem.W.mg_none_of X G n_list, b_range := PySem.W.mg_none_of X G n_range }
    have ET : ETxt mg := ⟨PySem.W.mg_none_of X G n_sorted, PySem.W.mg_none_of X G n_int⟩
    have GLg := ok_long (P := P) (w := w) (base := base) FLg OT cl cNL JT
    have GJs := ok_js (P := P) (w := w) (base := base) FJo GLg bLg MLg GJn BJ cl cNL cl2 dNL JT
    have GNf := ok_nmf (P := P) (w := w) (base := base) FNf GJs bJo MJo cl
    have GLn := ok_lens (P := P) (w := w) (base := base) FLn GJs bJo MJo cl ET
    obtain ⟨itsNf, kbNf⟩ := FNf.kbindsD (ps := ["self", "length", "most"]) 2 ["most"] (fun us _ ws => us ++ ws) (by simp) (fun r1 _ r3 => r1.append r3) fun T kV doc pm an cdv ct us its ws hu hi hw => match us, hu, its, hi, ws, hw with | [_, _], _, [_], _, [_], _ => ⟨_, rfl, rfl⟩
    obtain ⟨itsLn, kbLn⟩ := FLn.kbindsD (ps := ["self", "most"]) 1 ["most"] (fun us _ ws => us ++ ws) (by simp) (fun r1 _ r3 => r1.append r3) fun T kV doc pm an cdv ct us its ws hu hi hw => match us, hu, its, hi, ws, hw with | [_], _, [_], _, [_], _ => ⟨_, rfl, rfl⟩
    have GB : FnOk P w K mg base CX0 1 fB _ ["_law_script"] (spBox K) := ok_box FB bt
    have GT : FnOk P w K mg base CX0 1 fT _ ["_law_box_here", "_law_size"] spTake := ok_take FT bt
    have GRk := ok_rk FRk GT FT bT MKR G0 GP MP cl ⟨PySem.W.mg_of X G aCR, PySem.W.mg_of X G aT, PySem.W.mg_none_of X G n_range⟩
    have GSe := ok_sets (P := P) (w := w) (base := base) FSe ⟨PySem.W.mg_none_of X G n_range⟩
    have GLj := ok_ljs (P := P) (w := w) (base := base) FLj ⟨PySem.W.mg_of X G aSe, PySem.W.mg_none_of X G n_len, PySem.W.mg_none_of X G n_min, PySem.W.mg_none_of X G n_sum⟩ GSe FSe bSe
    have GAs := ok_asc (P := P) (w := w) (base := base) FAs ET
    have GFi := ok_fst (P := P) (w := w) (mg := mg) (base := base) FFi
    have GNb := ok_nbs (P := P) (w := w) (base := base) FNb { b_isinstance := PySem.W.mg_none_of X G n_isinstance, b_int := PySem.W.mg_none_of X G n_int, b_bool := PySem.W.mg_none_of X G n_bool, b_list := PySem.W.mg_none_of X G n_list, b_len := PySem.W.mg_none_of X G n_len, b_range := PySem.W.mg_none_of X G n_range }
    exact ok_law FL { box := PySem.W.mg_of X G aB, take := PySem.W.mg_of X G aT, rk := PySem.W.mg_of X G aRk, ljs := PySem.W.mg_of X G aLj, asc := PySem.W.mg_of X G aAs, fst := PySem.W.mg_of X G aFi, nbs := PySem.W.mg_of X G aNb, b_isinstance := PySem.W.mg_none_of X G n_isinstance, b_list := PySem.W.mg_none_of X G n_list }
      GB FB bB GT FT bT GRk FRk bRk GLj FLj bLj GAs FAs bAs GFi FFi bFi GNb FNb bNb GNf bNf1 bNf0 vdNf0 kbNf MNf GLn bLn1 bLn0 vdLn0 kbLn MLn GP MP GNs bRn MN cl⟩
theorem walk {l : PySem.W.OpenLaw} {q : Program} {loose : List Str} {XP : (Str → Option Value) → Heap → Prop} {YP : World → Heap → Prop} {d : DefRec} {K : Params → PySem.W.Frag} (hn : l.most = some 63) (hdf : d.params.defaults = [])
    (hY : ∀ (w : World) (h : Heap), YP w h → (K w.params).In h)
    (F : ∀ (w : World) (mg : Str → Option Value) (fa : Addr) (h : Heap), (K w.params).In h → h.Ns mainGlobals mg → mg d.name = some (.ref fa) →
      ∃ fd : FuncData, (∀ (s : Shared) (u : Value), BindsTo s fd ⟨[u], []⟩ [("_law_script", u)]) ∧ ∀ base : Heap, (K w.params).In base → base.Ns mainGlobals mg → FnOk l.prog w (K w.params) mg base CX0 10 fa fd ["_law_script"] (spLaw (K w.params))) :
    PySem.W.WalkO q loose XP YP l.row.toRowW d [] (fun f vs => PySem.call f vs) :=
  L2.walk_of (n := 63) (k := 10) (x := "_law_script") (CX := fun _ => CX0) (sp := fun w => spLaw (K w.params)) hn (by decide) hdf ⟨rfl, by decide, by decide⟩ hY F (fun _ _ a ns hl _ hS => ⟨a, ns, rfl, hS, hl, fun _ => rfl⟩) fun _ _ _ _ _ z => z
end Law

open PySem PySem.W PyProof.Rows
set_option maxRecDepth 100000 in
set_option maxHeartbeats 0 in
theorem PySem.Challenge.cw_rungbounds_k07_whole_rack_of_joins_holds : PySem.Challenge.rw_rungbounds_k07_whole_rack_of_joins.Holds := by
  w_on; o_law; k_head; (case hw => w_witness2)
  k_fill
  refine Law.walk (l := PySem.Challenge.rw_rungbounds_k07_whole_rack_of_joins) rfl rfl (fun w h Y => PySem.W.kIn_of Y) ?F
  case F =>
    intro w mg fa h KX G hmg
    refine' Law.all_mk KX G hmg (by rfl) ?aCR ?aCL ?aN ?lN ?cN ?kN ?aK ?lK ?cK ?kK ?aJ ?lJ ?cJ ?kJ ?aMi ?lMi ?cMi ?kMi ?iMi ?dMi ?aRi ?lRi ?cRi ?kRi ?iRi ?aRp ?lRp ?cRp ?kRp ?iRp ?aRn ?lRn ?cRn ?kRn ?iRn ?aRl ?lRl ?cRl ?kRl ?iRl ?aRj ?lRj ?cRj ?kRj ?iRj ?aLg ?lLg ?cLg ?kLg ?iLg ?aJo ?lJo ?cJo ?kJo ?iJo ?aLn ?lLn ?cLn ?kLn ?iLn ?dLn ?aNf ?lNf ?cNf ?kNf ?iNf ?dNf ?aB ?lB ?cB ?kB ?aT ?lT ?cT ?kT ?aRk ?lRk ?cRk ?kRk ?aNb ?lNb ?cNb ?kNb ?aSe ?lSe ?cSe ?kSe ?aLj ?lLj ?cLj ?kLj ?aAs ?lAs ?cAs ?kAs ?aFi ?lFi ?cFi ?kFi ?aL ?lL ?cL ?kL ?opq ?nsup ?aEB ?xEB ?saEB ?gaEB ?ggEB ?nbEB ?iEB ?tEB ?lEB ?coEB ?lkEB ?vkEBx ?feEB ?leEB ?mrEB ?upEB ?svEB ?kcEB ?ebEB ?tyEB ?hdEB ?ssEB ?aEN ?xEN ?saEN ?gaEN ?ggEN ?nbEN ?iEN ?tEN ?lEN ?coEN ?lkEN ?vkENx ?feEN ?leEN ?mrEN ?upEN ?svEN ?kcEN ?ebEN ?tyEN ?hdEN ?ssEN ?aET ?xET ?saET ?gaET ?ggET ?nbET ?iET ?tET ?lET ?coET ?lkET ?vkETx ?feET ?leET ?mrET ?upET ?svET ?kcET ?ebET ?tyET ?hdET ?ssET ?aEU ?xEU ?saEU ?gaEU ?ggEU ?nbEU ?iEU ?tEU ?lEU ?coEU ?lkEU ?vkEUx ?feEU ?leEU ?mrEU ?upEU ?svEU ?kcEU ?ebEU ?tyEU ?hdEU ?ssEU ?aEM ?xEM ?saEM ?gaEM ?ggEM ?nbEM ?iEM ?tEM ?lEM ?coEM ?lkEM ?vkEMx ?feEM ?leEM ?mrEM ?upEM ?svEM ?kcEM ?ebEM ?tyEM ?hdEM ?ssEM ?n_len ?n_int ?n_isinstance ?n_bool ?n_range ?n_list ?n_sum ?n_sorted ?n_min ?cPG ?cHD ?cPO ?cSA ?cMK ?cKP ?dPG ?dHD ?dPO ?dSA ?dMK ?dKP ?cNL ?dNL ?dNP ?tLT ?tLG ?tMO ?rdD ?gaD ?ovD ?gfRj ?tkRj ?fiRj
    (case aCR => k_is)
    (case aCL => k_is)
    (case aN => k_is)
    (case lN => k_is)
    (case cN => k_is)
    (case kN => k_is)
    (case aK => k_is)
    (case lK => k_is)
    (case cK => k_is)
    (case kK => k_is)
    (case aJ => k_is)
    (case lJ => k_is)
    (case cJ => k_is)
    (case kJ => k_is)
    (case aMi => k_is)
    (case lMi => k_is)
    (case cMi => k_is)
    (case kMi => k_is)
    (case iMi => k_is)
    (case dMi => k_is)
    (case aRi => k_is)
    (case lRi => k_is)
    (case cRi => k_is)
    (case kRi => k_is)
    (case iRi => k_is)
    (case aRp => k_is)
    (case lRp => k_is)
    (case cRp => k_is)
    (case kRp => k_is)
    (case iRp => k_is)
    (case aRn => k_is)
    (case lRn => k_is)
    (case cRn => k_is)
    (case kRn => k_is)
    (case iRn => k_is)
    (case aRl => k_is)
    (case lRl => k_is)
    (case cRl => k_is)
    (case kRl => k_is)
    (case iRl => k_is)
    (case aRj => k_is)
    (case lRj => k_is)
    (case cRj => k_is)
    (case kRj => k_is)
    (case iRj => k_is)
    (case aLg => k_is)
    (case lLg => k_is)
    (case cLg => k_is)
    (case kLg => k_is)
    (case iLg => k_is)
    (case aJo => k_is)
    (case lJo => k_is)
    (case cJo => k_is)
    (case kJo => k_is)
    (case iJo => k_is)
    (case aLn => k_is)
    (case lLn => k_is)
    (case cLn => k_is)
    (case kLn => k_is)
    (case iLn => k_is)
    (case dLn => k_is)
    (case aNf => k_is)
    (case lNf => k_is)
    (case cNf => k_is)
    (case kNf => k_is)
    (case iNf => k_is)
    (case dNf => k_is)
    (case aB => k_is)
    (case lB => k_is)
    (case cB => k_is)
    (case kB => k_is)
    (case aT => k_is)
    (case lT => k_is)
    (case cT => k_is)
    (case kT => k_is)
    (case aRk => k_is)
    (case lRk => k_is)
    (case cRk => k_is)
    (case kRk => k_is)
    (case aNb => k_is)
    (case lNb => k_is)
    (case cNb => k_is)
    (case kNb => k_is)
    (case aSe => k_is)
    (case lSe => k_is)
    (case cSe => k_is)
    (case kSe => k_is)
    (case aLj => k_is)
    (case lLj => k_is)
    (case cLj => k_is)
    (case kLj => k_is)
    (case aAs => k_is)
    (case lAs => k_is)
    (case cAs => k_is)
    (case kAs => k_is)
    (case aFi => k_is)
    (case lFi => k_is)
    (case cFi => k_is)
    (case kFi => k_is)
    (case aL => k_is)
    (case lL => k_is)
    (case cL => k_is)
    (case kL => k_is)
    (case opq => k_is)
    (case nsup => k_is)
    (case aEB => k_is)
    (case xEB => k_is)
    (case saEB => k_is)
    (case gaEB => k_is)
    (case ggEB => k_is)
    (case nbEB => k_is)
    (case iEB => k_is)
    (case tEB => k_is)
    (case lEB => k_is)
    (case coEB => k_is)
    (case lkEB => k_is)
    (case vkEBx => rfl)
    (case feEB => decide +kernel)
    (case leEB => k_is)
    (case mrEB => k_is)
    (case upEB => first | ks_is | rfl)
    (case svEB => k_is)
    (case kcEB => k_is)
    (case ebEB => k_is)
    (case tyEB => k_is)
    (case hdEB => k_is)
    (case ssEB => first | rfl | k_is)
    (case aEN => k_is)
    (case xEN => k_is)
    (case saEN => k_is)
    (case gaEN => k_is)
    (case ggEN => k_is)
    (case nbEN => k_is)
    (case iEN => k_is)
    (case tEN => k_is)
    (case lEN => k_is)
    (case coEN => k_is)
    (case lkEN => k_is)
    (case vkENx => rfl)
    (case feEN => decide +kernel)
    (case leEN => k_is)
    (case mrEN => k_is)
    (case upEN => first | ks_is | rfl)
    (case svEN => k_is)
    (case kcEN => k_is)
    (case ebEN => k_is)
    (case tyEN => k_is)
    (case hdEN => k_is)
    (case ssEN => first | rfl | k_is)
    (case aET => k_is)
    (case xET => k_is)
    (case saET => k_is)
    (case gaET => k_is)
    (case ggET => k_is)
    (case nbET => k_is)
    (case iET => k_is)
    (case tET => k_is)
    (case lET => k_is)
    (case coET => k_is)
    (case lkET => k_is)
    (case vkETx => rfl)
    (case feET => decide +kernel)
    (case leET => k_is)
    (case mrET => k_is)
    (case upET => first | ks_is | rfl)
    (case svET => k_is)
    (case kcET => k_is)
    (case ebET => k_is)
    (case tyET => k_is)
    (case hdET => k_is)
    (case ssET => first | rfl | k_is)
    (case aEU => k_is)
    (case xEU => k_is)
    (case saEU => k_is)
    (case gaEU => k_is)
    (case ggEU => k_is)
    (case nbEU => k_is)
    (case iEU => k_is)
    (case tEU => k_is)
    (case lEU => k_is)
    (case coEU => k_is)
    (case lkEU => k_is)
    (case vkEUx => rfl)
    (case feEU => decide +kernel)
    (case leEU => k_is)
    (case mrEU => k_is)
    (case upEU => first | ks_is | rfl)
    (case svEU => k_is)
    (case kcEU => k_is)
    (case ebEU => k_is)
    (case tyEU => k_is)
    (case hdEU => k_is)
    (case ssEU => first | rfl | k_is)
    (case aEM => k_is)
    (case xEM => k_is)
    (case saEM => k_is)
    (case gaEM => k_is)
    (case ggEM => k_is)
    (case nbEM => k_is)
    (case iEM => k_is)
    (case tEM => k_is)
    (case lEM => k_is)
    (case coEM => k_is)
    (case lkEM => k_is)
    (case vkEMx => rfl)
    (case feEM => decide +kernel)
    (case leEM => k_is)
    (case mrEM => k_is)
    (case upEM => first | ks_is | rfl)
    (case svEM => k_is)
    (case kcEM => k_is)
    (case ebEM => k_is)
    (case tyEM => k_is)
    (case hdEM => k_is)
    (case ssEM => first | rfl | k_is)
    (case n_len => k_is)
    (case n_int => k_is)
    (case n_isinstance => k_is)
    (case n_bool => k_is)
    (case n_range => k_is)
    (case n_list => k_is)
    (case n_sum => k_is)
    (case n_sorted => k_is)
    (case n_min => k_is)
    (case cPG => first | k_is | rfl | kernel_rfl)
    (case cHD => first | k_is | rfl | kernel_rfl)
    (case cPO => first | k_is | rfl | kernel_rfl)
    (case cSA => k_is)
    (case cMK => first | k_is | rfl | kernel_rfl)
    (case cKP => k_is)
    (case dPG => first | k_is | rfl | kernel_rfl)
    (case dHD => first | k_is | rfl | kernel_rfl)
    (case dPO => first | k_is | rfl | kernel_rfl)
    (case dSA => k_is)
    (case dMK => first | k_is | rfl | kernel_rfl)
    (case dKP => k_is)
    (case cNL => k_is)
    (case dNL => k_is)
    (case dNP => k_is)
    (case tLT => k_is)
    (case tLG => k_is)
    (case tMO => k_is)
    (case rdD => k_is)
    (case gaD => k_is)
    (case ovD => k_is)
    (case gfRj => first | k_is | rfl)
    (case tkRj => first | k_is | rfl | kernel_rfl)
    (case fiRj => first | k_is | rfl | kernel_rfl)
