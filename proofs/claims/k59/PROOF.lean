import PyProof.Rows.All
import Wide.All
import OpenK.AllK
import Wide.FinOn
import HandS.ForMost
import HandS.Wide
import HandS.ExcInit
import HandS.FStr
import HandS.Nested
import HandS.TryOnly
import HandS.ExcField
import HandS.WordsExc
import HandS.IsInst
import HandS.Codes
import HandS.Gcd
import HandS.Star
import HandS.ClsMeth
import KE.KTupSum
import HandS.Defaults
import HandS.ExcIs
import KE.KExcSuper
import KE.KMathG
import HandS.FStrTup
import HandS.OwnEq
import HandS.TupLe
import HandS.DeepEq
import HandS.MakeKw
import HandS.Walk
import HandS.WordsDict
import HandS.More
import HandS.Deep
import HandS.Style
import HandS.Flow
import HandS.CallSlots
import KE.GoesRaise
import PyProof.ReprReads
import HandS.MethStar
import HandS.SortInts
import HandS.DictComp
import KE.KSortedM
import HandS.DictTup
import HandS.Zip
import HandS.Conv
import HandS.TupMul
import KE.KCallOwn
import PySem.Challenge.RW_rungbounds_k59_whole_trials_written_and
import KE.GoesEnumKw
import KE.GoesEnum
import KE.GoesMore
import PyProof.Draws
import KE.KFmtOwn
import KE.KxAffix
import KE.IntTextLaws
import HandS.Steps
import HandS.AnyAll
import HandS.GenList
import PyProof.EqAt
import HandS.StrMore
import HandS.Text
set_option Elab.async false
set_option linter.all false
set_option maxRecDepth 100000
set_option maxHeartbeats 4000000
/-! Errors whose making calls super().__init__ on a text, then keeps a field. -/
namespace Sup
open PySem PySem.Spec PyProof.Rows L2 NdefX

abbrev mwrap (x : Addr) : Obj := PySem.W.kxs_mw "ValueError.__init__" x

/-- the wrapper of ValueError.__init__ bound to a, called -/
theorem call_wrap {prog : Program} {w : World} {A : Around} {E : Value → Shared → Prop} {h : Heap} {g : Array GenState} {d : Drawn} {t : Nat} {os : OsState}
    {nm q : Str} {C N : Addr} {bs bm : List Value} {hd : Bool} {sn : List Str} {sub : List Value} {ab : Bool} {col : Option Bool} {dd : Option Addr} {k0 k1 k2 k3 k5 : Option Value}
    {u a t0 : Addr} {us : List Value} {Q : Value → Shared → Prop}
    (hC : h.get? C = some (excClassObj nm q C N bs bm hd sn sub ab col dd k0 k1 k2 k3 k5 "ValueError.__new__"))
    (ha : h.get? a = some (PySem.HandSPX.excO C t0)) (hu : h.get? u = some (mwrap a)) (hl : us.length ≤ sizeLine)
    (hq : ∀ h' t1, (∀ b o, b ≠ a → h.get? b = some o → h'.get? b = some o) → h'.get? a = some (PySem.HandSPX.excO C t1) → Q .none ⟨h', g, d, t, os⟩) :
    wpAny (model prog w) A (call (.ref u) us) Q E ⟨h, g, d, t, os⟩ := by
  have FB := F.excBase_ValueError
  refine wpAny_call (codeAny_of_tree ?_)
  show wpAny _ A.in1 (callAny (.ref u) ⟨us, []⟩) _ _ _
  unfold callAny
  refine wpAny_bind (wpAny_load hu ?_)
  have k1' : (Value.type "method-wrapper" == Value.type "method" || Value.type "method-wrapper" == Value.type "builtin_function_or_method" || Value.type "method-wrapper" == Value.type "method-wrapper") = true := by decide
  simp only [mwrap, PySem.W.kxs_mw, k1', if_true]
  refine PySem.W.KFB.if_so (by decide) ?_
  refine wpAny_bind (PySem.W.check_bound_init FB.toExcCallFacts hC ha rfl ?_)
  refine wpAny_bind (wpAny_pure (wpAny_pure ?_))
  refine ⟨plainId_quiet FB.init.plain _, codeAny_builtin FB.initEntry ?_⟩
  exact PySem.W.exc_init_tree (cls := .ref C) (t0 := t0) (dv := none) (c2 := .none) (c3 := .none) (b4 := .bool false) ha hl fun h' k e _ => hq h' _ k e

/-- what the written part says of an own error's class at C and its __init__ at f -/
structure ErrTxt (P : Program) (K : PySem.W.Frag) (mg : Str → Option Value) (C f cda cc : Addr) (qual : Str) (st : Stmt) : Prop where
  oex : OexC K C
  iC : PySem.W.findIn K (.ref C) "__init__" = some (some (.ref f))
  tI : PySem.W.typeIn K (.ref f) = some (.type "function")
  fn : ∃ (oc : Value) (od an : Option Addr) (kV doc pm ct : Value) (osl : Array (Option Value)),
    K.lookup f = some ⟨oc, od, .func (PySem.W.fnX "__init__" qual (defArgs st) (defBody st) (defScope st) [("__class__", cc)] .none kV doc pm an (.ref cda) ct), osl⟩
  code : PySem.W.codeIn K (.ref cda) qual = true
  file : ∃ (o : Obj) (vs : Array Value) (fl : Str) (tf : Tok), K.lookup cda = some o ∧ o.data = .fields vs ∧ vs[2]? = some (.str fl tf) ∧ ((P.main.file : Str) == fl) = true
  cell : ∃ (o : Obj), K.lookup cc = some o ∧ o.data = .cell (some (.ref C))
  self : PySem.W.mroIn K C (.ref C) = some true
  opaque_ : PySem.W.nsIn K cStatics "thirdparty.any" = some none
  up : PySem.W.ks_superIn K C C "__init__" = some (some (.builtin "ValueError.__init__"))
  isVE : PySem.W.subIn K (.ref C) (.type "ValueError") = some true
  top : (P.main.scope.names.lookup ("super" : Str)).isSome = false
  noSup : mg "super" = none

section
variable {X : Cx} {pins : List (Addr × Obj)} {σ : L2.St} {H : Hp} {s : Shared} {a C f cda cc : Addr} {qual : Str} {st : Stmt} {e : Expr} {te : TE} {body : List Stmt} {p0 p1 p2 p3 : Pos} {Q : Hp → Prop} {scope : Scope} {ar : Arg}
theorem super_init (T : ErrTxt X.prog X.K X.mg C f cda cc qual st) (I : Inv X pins σ H s)
    (henv : X.env = PySem.W.envX qual scope X.env.locals f (.ref cda) [("__class__", cc)])
    (hks : scope.names.lookup ("super" : Str) = some .globalImplicit) (hkc : scope.names.lookup ("__class__" : Str) = some .free)
    (hks' : scope.names.lookup ar.arg = some .local)
    (har : ((defArgs st).posonlyargs ++ (defArgs st).args).head? = some ar)
    (h0 : X.N[0]? = some ar.arg) (hs0 : σ[0]? = some (some (V.ref a))) (ha : H a = some (exo a C none))
    (he : PE X e te) (hq : te σ H fun x H1 => [x].length ≤ 1 ∧ H1 a = some (exo a C none) ∧ Q H1) {pl : Sem Bool}
    (hform : eval (.Call (.Attribute (.Call (.Name "super" p0) [] [] p1) "__init__" p2) [e] [] p3) X.env = (do
      let ov ← attributeBase (.Call (.Name "super" p0) [] [] p1) "__init__" X.env (eval (.Call (.Name "super" p0) [] [] p1) X.env)
      standAt p2.atName
      let (g, first) ← holding [ov] (getMethod ov "__init__" pl)
      callWith p3 g first (backTo p3 (starEach [e] X.env)) []) := by rfl)
    (hse : starEach [e] X.env = (false, eval e X.env) :: starEach [] X.env := by rfl) :
    _root_.PySem.wpAt (model X.prog X.w) X.A (.func body X.env) (eval (.Call (.Attribute (.Call (.Name "super" p0) [] [] p1) "__init__" p2) [e] [] p3) X.env)
      (fun _ s' => ∃ H', Inv X pins σ H' s' ∧ Q H') X.xe s := by
  have kS : X.env.kindOf "super" = some .globalImplicit := by rw [henv]; exact hks
  have kC : X.env.kindOf "__class__" = some .free := by rw [henv]; exact hkc
  have kA : X.env.kindOf ar.arg = some .local := by rw [henv]; exact hks'
  have cL : X.env.cells.lookup ("__class__" : Str) = some cc := by rw [henv]; rfl
  have fL : X.env.func = some f := by rw [henv]
  have dL : X.env.code = .ref cda := by rw [henv]
  obtain ⟨nm, q, N, bs, bm, sn, sub, ab, col, dd, k0, k1, k2, k3, k5, hC, hbm⟩ := T.oex.cls
  have hcl : PySem.W.clsIn X.K C = some { name := nm, bases := bs, mro := .ref C :: bm, ns := N, qualname := q, hasDict := true, slotNames := sn, subclasses := sub, abstract := ab, collection := col, hasDel := false } := by
    unfold PySem.W.clsIn; rw [hC] <;> rfl
  obtain ⟨oc, od, an, kV, doc, pm, ct, osl, lf⟩ := T.fn
  obtain ⟨oF, vs, fl, tf, lc, hvf, hv2, hfl⟩ := T.file
  obtain ⟨oc2, lcell, dcell⟩ := T.cell
  obtain ⟨t1, hga⟩ := exo_at I.hok ha
  refine ks_wpAt_MethodCall (o := .Call (.Name "super" p0) [] [] p1) (name := "__init__") (apos := p2) (pos := p3) (args := [e]) (env := X.env) ?_ hform
  refine ks_wpAt_super_base (env := X.env) (cc := cda) (ar := ar) kS kC (by decide) fL (I.kIn _ _ lf) rfl har dL (I.kIn _ _ lc) hvf hv2 hfl T.top ?_
  -- the name super
  obtain ⟨mb, hb1, hb2⟩ := I.mod.blt
  refine PySem.W.ks_loadName_global I.ok.kind kS (Calls.loadGlobal_builtin (v := .type "super") (by rw [I.ok.glob]; exact I.mod.glob.keeps I.bk) T.noSup
    (by rw [I.ok.blt]; exact hb1.keeps I.bk) ((hb2 _ (by decide)).trans (by decide +kernel)) ⟨rfl, ?_⟩)
  -- the cell __class__
  refine wpAny_loadName_free I.ok.kind kC cL (v := .ref C) ⟨_, I.kIn _ _ lcell, dcell⟩ ?_
  -- self
  obtain ⟨m, hn, hlm⟩ := I.loc
  obtain ⟨u, ru, hlook⟩ := hlm 0 ar.arg (V.ref a) h0 hs0 (.inl (by rw [henv]; exact hks'))
  obtain rfl : u = Value.ref a := ru
  have hma : m ar.arg = some (Value.ref a) := by
    rcases hlook with ⟨_, z⟩ | ⟨z, _⟩
    · exact z
    · rw [kA] at z
      rcases z with z | z <;> cases z
  refine wpAny_loadName_local I.ok.kind kA hn hma ?_
  have gC := I.kIn _ _ hC
  refine ks_wpAny_isType_cls gC rfl ⟨rfl, ?_⟩
  obtain ⟨hp, g, d, t, os⟩ := s
  refine ks_wpAny_call_super gC rfl hga rfl (fun c z => by cases z) (PySem.W.looks_mroIn I.kIn T.self) fun h1 e1 k1 => ?_
  have J1 : Inv X pins σ H ⟨h1, g, d, t, os⟩ := I.kept (t' := t) k1
  have I1 : PySem.W.InstAt h1 a (PySem.HandSPX.excO C t1) C none := ⟨k1 _ _ hga, rfl, rfl, trivial⟩
  have hup := T.up
  unfold PySem.W.ks_superIn at hup
  rw [hcl] at hup
  refine PySem.W.kxs_getMethod PySem.W.kxs_ValueError e1 (PySem.W.looks_opaque J1.kIn T.opaque_)
    (fun A' Q' E' s' k q => wpAny_bind ((PySem.W.looks_clsIn J1.kIn hcl) A' _ E' s' k (wpAny_pure q))) rfl J1.kIn hup
    (I1.type.andThen (PySem.W.looks_subIn J1.kIn T.isVE)) (PySem.W.ks_ne J1.kIn I1 hcl) (by decide) ?_
  have gu : (h1.push (mwrap a)).get? h1.objs.size = some (mwrap a) := Heap.get?_push_at rfl rfl
  have J2 : Inv X pins σ H ⟨h1.push (mwrap a), g, d, t + 1, os⟩ := J1.kept (t' := t + 1) fun b o z => Heap.get?_push_of_some _ z
  have J3 : Inv X ((h1.objs.size, mwrap a) :: pins) σ H ⟨h1.push (mwrap a), g, d, t + 1, os⟩ := J2.pins_of fun p hp => by
    rcases List.mem_cons.mp hp with rfl | hp
    · refine ⟨gu, J1.hok.fresh (Nat.le_refl _), fun z => ?_, J1.nofs (Nat.le_refl _), fun v z => by cases z⟩
      have z' : h1.objs.size = X.env.locals := z
      have y := J1.lt
      rw [← z'] at y
      exact absurd y (Nat.lt_irrefl _)
    · exact J2.pin p (List.mem_append_right _ hp)
  show wpAny _ _ (callWith p3 (.ref h1.objs.size) [] (backTo p3 (starEach [e] X.env)) []) _ _ _
  have hq' : tCons te tNil σ H fun xs H1 => xs.length ≤ 1 ∧ H1 a = some (exo a C none) ∧ Q H1 := hq
  rw [hse]
  refine PySem.W.kxs_callWith (i := "ValueError.__init__") (x := a) (by rfl) ?_
  refine Calls.evalArgs_plain ?_
  have pr := (pa_cons he pa_nil hse).run p3 _ _ σ H _ J3 hq'
  rw [hse] at pr
  refine thn pr fun us s2 hh => ?_
  obtain ⟨xs, H2, I2, r2, hx1, ha2, hQ2⟩ := hh
  have gw := (I2.pin (h1.objs.size, mwrap a) (List.mem_append_right _ List.mem_cons_self)).1
  refine ⟨gw, ?_⟩
  obtain ⟨t2, hga2⟩ := exo_at I2.hok ha2
  obtain ⟨hp2, g2, d2, tk2, os2⟩ := s2
  have hul : us.length ≤ sizeLine := by
    rw [← r2.length, sizeLine_eq]
    omega
  refine call_wrap (us := us) (I2.kIn _ _ hC) hga2 gw hul fun h3 t3 k3' e3 => ?_
  have J4 := I2.write (t' := tk2) (x := a) (e := a) (o := exo a C none) (by rw [ha2]; exact True.intro) (.inl rfl) k3' ⟨_, e3⟩ (exo_ok e3)
  have eu : upd H2 a (exo a C none) = H2 := by
    funext b
    by_cases hb : b = a
    · rw [hb, upd_same, ha2]
    · exact upd_ne hb
  rw [eu] at J4
  exact ⟨H2, J4.pins_of fun p hp => J4.pin p (List.mem_append_right _ (List.mem_cons_of_mem _ hp)), hQ2⟩
end

/-! ### the making of an own error, as a promise -/
/-- at a an exception of the class at C is being made; the argument v goes to the field fl -/
def spErr (C : Addr) (fl : Str) (ok : V → Prop) : Sp := fun vs H Q _ => ∃ (a : Addr) (v : V), vs = [.ref a, v] ∧ H a = some (exo a C none) ∧ ok v ∧
  ∀ dx, H dx = none → dx ≠ a → Q .non (upd (upd H dx (exd dx [(fl, v)])) a (exo a C (some dx)))

def okInt : V → Prop := fun v => ∃ i : Int, v = .int i ∧ i.natAbs.log2 < 1920
def okTxt : V → Prop := fun v => ∃ y : Str, v = .str y ∧ (reprText y).length ≤ 10000

section
variable {P : Program} {w : World} {K : PySem.W.Frag} {mg : Str → Option Value} {base : Heap} {C f cda cc : Addr} {qual pn : Str} {st : Stmt} {N : List Str}

abbrev supNF (qual : Str) (st : Stmt) (cda cc : Addr) : NF := ⟨"__init__", qual, defArgs st, defBody st, defScope st, [("__class__", cc)], cda⟩

/-- a def that closes over __class__ alone, entered: its body runs in the frame of NdefX -/
theorem sup_fn {CX : CXT} {sp : Sp} {k : Nat} {ps : List Str} (T : ErrTxt P K mg C f cda cc qual st) (S : NScope N ps ["__class__"] (defScope st))
    (len : ∀ vs H Q E, sp vs H Q E → vs.length = ps.length)
    (hb : ∀ (oc : Value) (od an : Option Addr) (kV doc pm ct : Value) (us : List Value), us.length = ps.length →
      bindArgs (PySem.W.fnX "__init__" qual (defArgs st) (defBody st) (defScope st) [("__class__", cc)] .none kV doc pm an (.ref cda) ct) ⟨us, []⟩ = pure (ps.zip us))
    (hbody : ∀ (A : Around) (outer : List Env) (s : Shared) (H : Hp) (vs : List V) (Q : VK) (E : XK), sp vs H Q E → Room k (ncx CX P w K mg base N (supNF qual st cda cc) f A outer s H E).A →
      ∀ s1, L2.Inv (ncx CX P w K mg base N (supNF qual st cda cc) f A outer s H E) [] (startF N vs [none]) H s1 →
        _root_.PySem.wpAt (model P w) (ncx CX P w K mg base N (supNF qual st cda cc) f A outer s H E).A (.func (defBody st) (ncx CX P w K mg base N (supNF qual st cda cc) f A outer s H E).env)
          (execs (defBody st) (ncx CX P w K mg base N (supNF qual st cda cc) f A outer s H E).env)
          (SP (ncx CX P w K mg base N (supNF qual st cda cc) f A outer s H E) [] { nx := fun _ H' => Q .non H', rt := Q })
          (ncx CX P w K mg base N (supNF qual st cda cc) f A outer s H E).xe s1) :
    ∃ fd, FnOk P w K mg base CX (k + 1) f fd ps sp ∧ Binds K fd ps [] := by
  obtain ⟨oc, od, an, kV, doc, pm, ct, osl, lf⟩ := T.fn
  obtain ⟨oc2, lcell, dcell⟩ := T.cell
  refine ⟨_, ⟨len, fun A outer s H args us vs Q E hr e0 hbd r hsp => ?_⟩, Binds.all (hb oc od an kV doc pm ct)⟩
  have hl := len _ _ _ _ hsp
  have KX : K.In s.heap := e0.mod.kin.keeps fun b o e => (e0.bs b o e).1
  have lim : s.heap.NoLimit := e0.mod.nolimit.keeps fun b o e => (e0.bs b o e).1
  have hH : H cc = none := (e0.bs cc oc2 (e0.mod.kin _ _ lcell)).2
  have CA : CellsAt [("__class__", cc)] ["__class__"] [none] s.heap H := {
    len := rfl
    all := fun y c h => by
      have h' : (if y = ("__class__" : Str) then some cc else none) = some c := by
        by_cases e : y = ("__class__" : Str)
        · subst e; exact h
        · have q : (y == ("__class__" : Str)) = false := by simpa using e
          have z : List.lookup y [(("__class__" : Str), cc)] = none := by simp [List.lookup, q]
          rw [z] at h; cases h
      split at h'
      · cases h'
        exact ⟨hH, some (.ref C), oc2, KX _ _ lcell, dcell⟩
      · cases h'
    inj := fun x y c h1 h2 => by
      have key : ∀ z : Str, List.lookup z [(("__class__" : Str), cc)] = some c → z = "__class__" := fun z hz => by
        by_cases e : z = ("__class__" : Str)
        · exact e
        · have q : (z == ("__class__" : Str)) = false := by simpa using e
          have w : List.lookup z [(("__class__" : Str), cc)] = none := by simp [List.lookup, q]
          rw [w] at hz; cases hz
      exact (key x h1).trans (key y h2).symm
    has := fun i y h => by
      match i, h with
      | 0, h =>
        have e : ("__class__" : Str) = y := Option.some.inj h
        subst e
        exact ⟨cc, by simp [List.lookup], fun v z => by cases z⟩
      | i + 1, h => cases h }
  refine ks_codeAny_call_defAt (binds := ps.zip us) hr.depth (KX _ _ lf) rfl lim (PySem.W.codeRec_of KX T.code) rfl hbd S.nocell (fun ⟨n, _⟩ hy => S.par n (List.of_mem_zip hy).1) (fun h1 hns kp => ?_) S.co S.gen S.kind
  have I : L2.Inv (ncx CX P w K mg base N (supNF qual st cda cc) f A outer s H E) [] (startF N vs [none]) H { s with heap := h1, toks := s.toks + (ps.zip us).length } :=
    inv_startN S hr.hd e0 hl r CA hns kp
  refine _root_.PySem.wpAt_mono (hbody A outer s H vs Q E hsp (hr.deeper _) _ I) (fun fl s' hs => ?_) fun e s' hs => hs
  cases fl with
  | ret u =>
    obtain ⟨v, σ', H', J, rv, q⟩ := hs
    exact ⟨v, H', J.os, J.bare, J.base, J.hok, rv, q⟩
  | next =>
    obtain ⟨σ', H', J, q⟩ := hs
    exact ⟨V.non, H', J.os, J.bare, J.base, J.hok, rfl, q⟩
  | brk =>
    obtain ⟨_, _, _, q⟩ := hs
    exact False.elim q
  | cont =>
    obtain ⟨_, _, _, q⟩ := hs
    exact False.elim q
end

section
variable {P : Program} {w : World} {K : PySem.W.Frag} {mg : Str → Option Value} {base : Heap} {C f cda cc : Addr} {qual pn : Str} {st : Stmt} {N : List Str}

/-- the body: super().__init__(e), then one statement more -/
theorem two_run {X : Cx} {σ : L2.St} {H : Hp} {s : Shared} {a : Addr} {e : Expr} {te : TE} {t2 : TS} {st2 : Stmt} {body : List Stmt} {p0 p1 p2 p3 p4 : Pos} {scope : Scope} {ar : Arg} {D : Ends}
    (T : ErrTxt X.prog X.K X.mg C f cda cc qual st) (I : L2.Inv X [] σ H s)
    (henv : X.env = PySem.W.envX qual scope X.env.locals f (.ref cda) [("__class__", cc)])
    (hks : scope.names.lookup ("super" : Str) = some .globalImplicit) (hkc : scope.names.lookup ("__class__" : Str) = some .free)
    (hka : scope.names.lookup ar.arg = some .local)
    (har : ((defArgs st).posonlyargs ++ (defArgs st).args).head? = some ar)
    (h0 : X.N[0]? = some ar.arg) (hs0 : σ[0]? = some (some (V.ref a))) (ha : H a = some (exo a C none))
    (he : PE X e te) (h2 : PS X st2 t2) (hq : te σ H fun x H1 => [x].length ≤ 1 ∧ H1 a = some (exo a C none) ∧ t2 D σ H1) {pl : Sem Bool}
    (hform : eval (.Call (.Attribute (.Call (.Name "super" p0) [] [] p1) "__init__" p2) [e] [] p3) X.env = (do
      let ov ← attributeBase (.Call (.Name "super" p0) [] [] p1) "__init__" X.env (eval (.Call (.Name "super" p0) [] [] p1) X.env)
      standAt p2.atName
      let (g, first) ← holding [ov] (getMethod ov "__init__" pl)
      callWith p3 g first (backTo p3 (starEach [e] X.env)) []) := by rfl)
    (hse : starEach [e] X.env = (false, eval e X.env) :: starEach [] X.env := by rfl) (hi : interactive X.env = false := by rfl) :
    _root_.PySem.wpAt (model X.prog X.w) X.A (.func body X.env)
      (execs [.Expr (.Call (.Attribute (.Call (.Name "super" p0) [] [] p1) "__init__" p2) [e] [] p3) p4, st2] X.env) (SP X [] D) X.xe s := by
  refine ks_wpAt_execs_cons (ks_wpAt_Expr_any ?_ hi)
  refine _root_.PySem.wpAt_mono (super_init (Q := fun H1 => t2 D σ H1) T I henv hks hkc hka har h0 hs0 ha he hq hform hse) (fun v s' hh => ?_) fun _ _ z => z
  obtain ⟨H1, I1, q⟩ := hh
  exact _root_.PySem.wpAt_of_wpAny ((pss_one h2).run [] s' σ H1 D I1 q)

theorem form_of (env : Env) {p0 p1 p2 p3 q4 : Pos} {ps : List Expr} (hln : (p2.endLine == p3.line) = true) : eval (.Call (.Attribute (.Call (.Name "super" p0) [] [] p1) "__init__" p2) [.JoinedStr ps q4] [] p3) env = (do
      let ov ← attributeBase (.Call (.Name "super" p0) [] [] p1) "__init__" env (eval (.Call (.Name "super" p0) [] [] p1) env)
      standAt p2.atName
      let (g, first) ← holding [ov] (getMethod ov "__init__" (do return (← importBound (.Call (.Name "super" p0) [] [] p1) env).getD true))
      callWith p3 g first (backTo p3 (starEach [.JoinedStr ps q4] env)) []) := by
  have hp : methodCallPos true (.Call (.Name "super" p0) [] [] p1) env p2 p3 = pure p3 := by
    unfold methodCallPos
    rw [hln]
    rfl
  show (do
    let ov ← attributeBase (.Call (.Name "super" p0) [] [] p1) "__init__" env (eval (.Call (.Name "super" p0) [] [] p1) env)
    standAt p2.atName
    let (g, first) ← holding [ov] (getMethod ov "__init__" (do return (← importBound (.Call (.Name "super" p0) [] [] p1) env).getD true))
    let cp ← methodCallPos true (.Call (.Name "super" p0) [] [] p1) env p2 p3
    callWith cp g first (backTo p3 (starEach [.JoinedStr ps q4] env)) []) = _
  rw [hp]
  rfl
theorem lit_small {lit : Str} (hl : lit.length ≤ 1000) : (Str.empty ++ lit).length ≤ 1000 := by
  rw [Str.length_append]
  exact Nat.le_trans (Nat.le_of_eq (Nat.zero_add _)) hl
theorem err_int {lit : Str} {j : Nat} {q1 q2 q3 q4 p0 p1 p2 p3 p4 r1 r2 r3 r4 : Pos} {ar : Arg} (T : ErrTxt P K mg C f cda cc qual st)
    (hbd : defBody st = [.Expr (.Call (.Attribute (.Call (.Name "super" p0) [] [] p1) "__init__" p2) [.JoinedStr [.Constant (.str lit) j q1, .FormattedValue (.Name pn q2) (-1) none q3] q4] [] p3) p4,
      .Assign [.Attribute (.Name "self" r1) pn r2] (.Name pn r3) r4]) (hln : (p2.endLine == p3.line) = true)
    (S : NScope ["self", pn, "__class__"] ["self", pn] ["__class__"] (defScope st))
    (hb : ∀ (oc : Value) (od an : Option Addr) (kV doc pm ct : Value) (us : List Value), us.length = 2 →
      bindArgs (PySem.W.fnX "__init__" qual (defArgs st) (defBody st) (defScope st) [("__class__", cc)] .none kV doc pm an (.ref cda) ct) ⟨us, []⟩ = pure ((["self", pn] : List Str).zip us))
    (hks : (defScope st).names.lookup ("super" : Str) = some .globalImplicit)
    (har : ((defArgs st).posonlyargs ++ (defArgs st).args).head? = some ar) (har2 : ar.arg = "self")
    (hd1 : (pn == ("__debug__" : Str)) = false) (hd2 : (pn == ("__classdict__" : Str)) = false)
    (hlit : lit.length ≤ 1000) (hno : PySem.W.findIn K (.ref C) pn = some none) :
    ∃ fd, FnOk P w K mg base CX0 2 f fd ["self", pn] (spErr C pn okInt) ∧ Binds K fd ["self", pn] [] := by
  refine sup_fn T S (fun vs H Q E h => ?_) hb fun A outer s H vs Q E hsp hroom s1 I => ?_
  · obtain ⟨a, v, rfl, _⟩ := h
    rfl
  · obtain ⟨a, v, rfl, ha, ⟨i, rfl, hi⟩, hQ⟩ := hsp
    have vN : Vis (ncx CX0 P w K mg base ["self", pn, "__class__"] (supNF qual st cda cc) f A outer s H E).env.scope pn := .inl (S.par _ (by simp))
    have vS : Vis (ncx CX0 P w K mg base ["self", pn, "__class__"] (supNF qual st cda cc) f A outer s H E).env.scope "self" := .inl (S.par _ (by simp))
    rw [hbd]
    refine two_run (te := fun σ H Q => tJs [tC (.str lit), tFmt (tVar 1)] Str.empty σ H fun out H1 => Q (.str out) H1) T I rfl hks (S.frk _ (by simp)) (by rw [har2]; exact S.par _ (by simp)) har (by rw [har2]; rfl) rfl ha
      (pe_joined (.cons pe_str (.cons (pe_fmt (pe_var (i := 1) rfl vN hd1 hd2)) .nil)))
      (ps_ost (pe_var (i := 0) rfl vS) (pe_var (i := 1) rfl vN hd1 hd2)) ?_ (form_of _ hln) (by rfl) (by show ((defScope st).kind == _ && _) = false; rw [S.kind]; rfl)
    have e0 := lit_small hlit
    have e1 := int_text_length_le (k := 1920) (by decide) hi
    refine ⟨lit, rfl, by rw [sizeLine_eq]; omega, _, rfl, .inr ⟨i, rfl, hi, Str.ofString (toString i), rfl, ?_, Nat.le_refl _, ha, ?_⟩⟩
    · rw [Str.length_append, PySem.ofString_length, sizeLine_eq]
      omega
    · exact ⟨_, rfl, _, rfl, a, C, rfl, T.oex, hno, .inl ⟨ha, fun dx h1 h2 => hQ dx h1 h2⟩⟩
/-- the same where the argument is a text, shown by its repr -/
theorem err_txt {lit : Str} {j : Nat} {q1 q2 q3 q4 p0 p1 p2 p3 p4 r1 r2 r3 r4 : Pos} {ar : Arg} (T : ErrTxt P K mg C f cda cc qual st)
    (hbd : defBody st = [.Expr (.Call (.Attribute (.Call (.Name "super" p0) [] [] p1) "__init__" p2) [.JoinedStr [.Constant (.str lit) j q1, .FormattedValue (.Name pn q2) 114 none q3] q4] [] p3) p4,
      .Assign [.Attribute (.Name "self" r1) pn r2] (.Name pn r3) r4]) (hln : (p2.endLine == p3.line) = true)
    (S : NScope ["self", pn, "__class__"] ["self", pn] ["__class__"] (defScope st))
    (hb : ∀ (oc : Value) (od an : Option Addr) (kV doc pm ct : Value) (us : List Value), us.length = 2 →
      bindArgs (PySem.W.fnX "__init__" qual (defArgs st) (defBody st) (defScope st) [("__class__", cc)] .none kV doc pm an (.ref cda) ct) ⟨us, []⟩ = pure ((["self", pn] : List Str).zip us))
    (hks : (defScope st).names.lookup ("super" : Str) = some .globalImplicit)
    (har : ((defArgs st).posonlyargs ++ (defArgs st).args).head? = some ar) (har2 : ar.arg = "self")
    (hd1 : (pn == ("__debug__" : Str)) = false) (hd2 : (pn == ("__classdict__" : Str)) = false)
    (hlit : lit.length ≤ 1000) (hno : PySem.W.findIn K (.ref C) pn = some none) :
    ∃ fd, FnOk P w K mg base CX0 2 f fd ["self", pn] (spErr C pn okTxt) ∧ Binds K fd ["self", pn] [] := by
  refine sup_fn T S (fun vs H Q E h => ?_) hb fun A outer s H vs Q E hsp hroom s1 I => ?_
  · obtain ⟨a, v, rfl, _⟩ := h
    rfl
  · obtain ⟨a, v, rfl, ha, ⟨y, rfl, hy⟩, hQ⟩ := hsp
    have vN : Vis (ncx CX0 P w K mg base ["self", pn, "__class__"] (supNF qual st cda cc) f A outer s H E).env.scope pn := .inl (S.par _ (by simp))
    have vS : Vis (ncx CX0 P w K mg base ["self", pn, "__class__"] (supNF qual st cda cc) f A outer s H E).env.scope "self" := .inl (S.par _ (by simp))
    rw [hbd]
    refine two_run (te := fun σ H Q => tJs [tC (.str lit), tFmtR (tVar 1)] Str.empty σ H fun out H1 => Q (.str out) H1) T I rfl hks (S.frk _ (by simp)) (by rw [har2]; exact S.par _ (by simp)) har (by rw [har2]; rfl) rfl ha
      (pe_joined (.cons pe_str (.cons (pe_fmtR (pe_var (i := 1) rfl vN hd1 hd2)) .nil)))
      (ps_ost (pe_var (i := 0) rfl vS) (pe_var (i := 1) rfl vN hd1 hd2)) ?_ (form_of _ hln) (by rfl) (by show ((defScope st).kind == _ && _) = false; rw [S.kind]; rfl)
    have e0 := lit_small hlit
    refine ⟨lit, rfl, by rw [sizeLine_eq]; omega, _, rfl, .inl ⟨y, rfl, by rw [sizeLine_eq]; omega, reprText y, rfl, ?_, Nat.le_refl _, ha, ?_⟩⟩
    · rw [Str.length_append, sizeLine_eq]
      omega
    · exact ⟨_, rfl, _, rfl, a, C, rfl, T.oex, hno, .inl ⟨ha, fun dx h1 h2 => hQ dx h1 h2⟩⟩
end

/-! ### an own error, ready to be raised and caught -/
structure ErrOk (P : Program) (w : World) (K : PySem.W.Frag) (mg : Str → Option Value) (base : Heap) (nm : Str) (C : Addr) (fl : Str) (ok : V → Prop) : Prop where
  oex : OexC K C
  xf : XfC K C
  g : mg nm = some (.ref C)
  no : PySem.W.findIn K (.ref C) fl = some none
  te : PySem.W.exmOne K (.ref C) (.ref C) = some true
  run : ∃ (f : Addr) (fd : FuncData), PySem.W.findIn K (.ref C) "__init__" = some (some (.ref f)) ∧ PySem.W.typeIn K (.ref f) = some (.type "function") ∧
    FnOk P w K mg base CX0 2 f fd ["self", fl] (spErr C fl ok) ∧ Binds K fd ["self", fl] []

section
variable {X : Cx} {nm : Str} {C : Addr} {fl : Str} {ok : V → Prop} {e : Expr} {ta : TA} {p pos pos2 : Pos} {W : WX}
/-- raise nm(e) -/
def tErr (C : Addr) (fl : Str) (ok : V → Prop) (ta : TA) (W : WX) : TS := fun _ σ H => tMkO C (spErr C fl ok) [] ta σ H fun cls d H' => W cls d σ H'
theorem ps_err (R : ErrOk X.prog X.w X.K X.mg X.base nm C fl ok) (hc : X.calm = true) (tk : Takes X W) (hr : Room 3 X.A) (ha : PA X [e] ta) (hg : Gl X nm)
    (hdb : (nm == ("__debug__" : Str)) = false := by decide) (he : starEach [e] X.env = (false, eval e X.env) :: starEach [] X.env := by rfl) (hpl : (backTo pos (starEach [] X.env)).any (·.1) = false := by rfl) :
    PS X (.Raise (some (.Call (.Name nm p) [e] [] pos)) none pos2) (tErr C fl ok ta W) := by
  obtain ⟨f, fd, h1, h2, h3, h4⟩ := R.run
  exact ps_raise hc tk (pmk_oex R.oex h1 h2 h3 hr h4 .nil pass0 hg R.g ha hdb he hpl)
/-- what such a raise asks: the argument is fit, and every way out is met -/
theorem err_way {H1 : Hp} {v : V} {Q : XK} (hv : ok v) (h : ∀ d, H1 d = none → Q (.ref C) (some d) (upd H1 d (.xd [(fl, v)]))) :
    [v].length ≤ 1000 ∧ ∀ a, H1 a = none → spErr C fl ok (.ref a :: ([v] ++ [])) (upd H1 a (exo a C none))
      (fun r H2 => r = .non ∧ ∃ (d : Addr) (fs : List (Str × V)), H2 a = some (exo a C (some d)) ∧ H2 d = some (exd d fs) ∧ H1 d = none ∧ Q (.ref C) (some d) (upd (del H2 a) d (.xd fs))) (fun _ _ _ => False) := by
  refine ⟨by show 1 ≤ 1000; omega, fun a hn => ⟨a, v, rfl, upd_same, hv, fun dx hdx hne => ⟨rfl, dx, _, upd_same, by rw [upd_ne hne, upd_same], ?_, ?_⟩⟩⟩
  · rw [upd_ne hne] at hdx
    exact hdx
  · have hd1 : H1 dx = none := by
      rw [upd_ne hne] at hdx
      exact hdx
    have e : upd (del (upd (upd (upd H1 a (exo a C none)) dx (exd dx [(fl, v)])) a (exo a C (some dx))) a) dx (.xd [(fl, v)]) = upd H1 dx (.xd [(fl, v)]) := by
      funext b
      by_cases hb : b = dx
      · rw [hb, upd_same, upd_same]
      · rw [upd_ne hb, upd_ne hb]
        by_cases hba : b = a
        · rw [hba, del_same, hn]
        · rw [del_ne hba, upd_ne hba, upd_ne hb, upd_ne hba]
    rw [e]
    exact h dx hd1
end
end Sup

/-! The text of a list, whatever is under way: some text of bounded length. -/
namespace Txs
open PySem PySem.Spec PyProof.Rows
section
variable {prog : Program} {w : World}
/-- the text of an item: some text of at most m signs; what stands in h0 is kept by whoever asks -/
def Tx (prog : Program) (w : World) (h0 : Heap) (m : Nat) (x : Value) : Prop :=
  ∀ (b : Nat), b + m ≤ sizeLine → ∀ (A : Around) (E : Value → Shared → Prop) (s : Shared) (Q : Str → Shared → Prop), A.units + 4 < cLine →
    (∀ c o, h0.get? c = some o → s.heap.get? c = some o) → (∀ (t : Str) (tk : Tok), t.length ≤ m → Q t { s with toks := tk }) → wpAny (model prog w) A (pyReprUnder b x) Q E s
theorem Tx.int {h0 : Heap} {i : Int} (t : Tok) (hi : i.natAbs.log2 < 1920) : Tx prog w h0 1921 (.int i t) := by
  intro b hb A E s Q _ _ h
  have e := int_text_length_le (k := 1920) (by decide) hi
  have e2 : (Str.ofString (toString i)).length ≤ 1921 := by rw [PySem.ofString_length]; exact e
  exact ReprIs.int t hi b (by omega) A E s Q fun tk => h _ tk e2
theorem Tx.mono {h0 : Heap} {m n : Nat} {x : Value} (T : Tx prog w h0 m x) (hmn : m ≤ n) : Tx prog w h0 n x := fun b hb A E s Q hu hk h =>
  T b (by omega) A E s Q hu hk fun t tk ht => h t tk (by omega)
theorem way_len : ("(...)" : Str).length ≤ 5 := by decide +kernel
/-- a tuple of things whose texts are settled -/
theorem Tx.tup {h0 : Heap} {a : Addr} {o : Obj} {items : Array Value} {n : Nat} {ts : List Str} (ha : h0.get? a = some o) (hc : o.cls = .type "tuple") (hd : o.data = .seq items n) (hT : ReprAll prog w items.toList ts) :
    Tx prog w h0 ((tupleText ts).length + 5) (.ref a) := by
  intro b hb A E s Q hu hk h
  have ha' := hk _ _ ha
  refine wpAny_pyReprUnder_ref (by omega) (wpAny_pyReprObjUnder_twin (T := "tuple") (twin := "tuple.__repr__.under") ⟨o, ha', hc⟩ F.slot_tuple_repr rfl (by omega) ?_)
  refine call_twin_own (F.quiet_tuple_repr_under _) F.entry_tuple_repr_under F.check_tuple_repr_under ⟨o, ha', hc⟩ F.slot_tuple_repr (F.args_tuple_repr_1 _) (wpOwn_of_wpAny ?_)
  show wpAny _ _ (Builtin.tupleReprAt b ⟨[.ref a], []⟩) _ _ s
  rw [tuple_repr_tree]
  refine wpAny_bind (fmt_underWay fun c => ?_)
  cases c with
  | true =>
    refine PySem.W.KFB.if_so rfl (wpAny_bind (wpAny_rule (wpAny_bind (wpAny_mkStr (wpAny_pure ?_) (by decide +kernel)))))
    exact ⟨⟨_, _, rfl⟩, _, _, rfl, h "(...)" _ (Nat.le_trans way_len (Nat.le_add_left _ _))⟩
  | false =>
    refine PySem.W.KFB.if_not rfl (wpAny_tupleReprRest ha' hd hT (fun u tk => ?_) (by omega))
    exact ⟨⟨_, _, rfl⟩, _, _, rfl, h (tupleText ts) tk (Nat.le_add_right _ _)⟩
theorem piled_le {m : Nat} : ∀ {ts : List Str}, (∀ t ∈ ts, t.length ≤ m) → piled ts ≤ (m + 2) * ts.length
  | [], _ => Nat.zero_le _
  | t :: ts, h => by
    have h1 := h t List.mem_cons_self
    have h2 := piled_le (ts := ts) fun u hu => h u (List.mem_cons_of_mem _ hu)
    rw [piled_cons, List.length_cons, Nat.mul_succ]
    omega
theorem listText_le : ∀ ts : List Str, (listText ts).length ≤ piled ts + 2
  | [] => by
    show (listText []).length ≤ 2
    rw [listText_nil]
    decide +kernel
  | t :: r => by
    have h := textFrom_length_pos r 1 (("[" : Str) ++ (if (0 : Nat) > 0 then ", " else "" : String) ++ t) (Nat.succ_pos 0)
    have e : ((("[" : Str) ++ (if (0 : Nat) > 0 then ", " else "" : String) ++ t)).length = 1 + t.length := by
      rw [strLen_append, strLen_append]; rfl
    have e3 : (listText (t :: r)).length = (textFrom 1 (("[" : Str) ++ (if (0 : Nat) > 0 then ", " else "" : String) ++ t) r).length + 1 := by
      show (textFrom 1 _ r ++ "]").length = _
      rw [strLen_append]; rfl
    rw [e3, h, e, piled_cons]
    omega
variable {A : Around} {R : Result → Shared → Prop}
theorem units_loop (A : Around) (args : Args) : (A.under (.builtin "list.__repr__.loop" args)).units ≤ A.units + 1 := by
  have e : (A.under (.builtin "list.__repr__.loop" args)).units = A.units + 1 ∨ (A.under (.builtin "list.__repr__.loop" args)).units = A.units := by
    first
      | exact .inl rfl
      | exact .inr rfl
      | simp [Around.under, Code.cUnits, Code.frames, Code.isFrame]
  rcases e with e | e <;> omega
theorem run_loop {h0 : Heap} {a Pa : Addr} {items : Array Value} {m b : Nat} (hP0 : h0.get? Pa = none) (hT : ∀ (i : Nat) (x : Value), items[i]? = some x → Tx prog w h0 m x)
    (hsz : b + ((m + 2) * items.size + 2 + m) ≤ sizeLine) (hu : A.units + 5 < cLine) {oa : Obj} {na : Nat} (ha : h0.get? a = some oa) (hda : oa.data = .seq items na) :
    ∀ (k i : Nat) (s : Shared) (acc : Array Value) (c : Nat) (done : List (Str × Tok)), items.size - i = k → i ≤ items.size → (∀ c o, h0.get? c = some o → s.heap.get? c = some o) →
    s.heap.get? Pa = some { cls := .type "list", dict := none, data := .seq acc c, slots := #[] } → acc.toList = strValues done → done.length = i → (∀ p ∈ done, p.1.length ≤ m) →
    (∀ h' (t : Str) u tk, t.length ≤ (m + 2) * items.size + 2 → (∀ b o, b ≠ Pa → s.heap.get? b = some o → h'.get? b = some o) → R (.ok (.ret (.str t u))) { s with heap := h', toks := tk }) →
    codeAny (model prog w) A (.builtin "list.__repr__.loop" ⟨[.ref a, rawInt i, .ref Pa, rawInt ((b + piled (done.map (·.1)) : Nat) : Int)], []⟩) R s := by
  intro k
  induction k with
  | zero =>
    intro i s acc c done hk hi hk0 hP hacc hdone hm hR
    have hin : i = items.size := by omega
    refine codeAny_builtin F.entry_list_repr_loop ?_
    show wpAny _ _ (Builtin.«list.__repr__.loop» ⟨[.ref a, .int i 0, .ref Pa, .int ((b + piled (done.map (·.1)) : Nat) : Int) 0], []⟩) _ _ s
    rw [repr_loop_tree]
    refine wpAny_bind (wpAny_listItems (hk0 _ _ ha) hda ?_)
    have hnone : items[(i : Int).toNat]? = none := by simp [hin]
    simp only [hnone]
    unfold reprEnd
    refine wpAny_bind (wpAny_listItems hP rfl ?_)
    rw [hacc, repr_fold]
    have hpl := piled_le (m := m) (ts := done.map (·.1)) fun t ht => by
      obtain ⟨p, hp, rfl⟩ := List.mem_map.mp ht
      exact hm p hp
    have hlt := listText_le (done.map (·.1))
    rw [List.length_map, hdone, hin] at hpl
    refine wpAny_bind (wpAny_pure (wpAny_bind (wpAny_mkStr (wpAny_pure ?_) (show (listText (done.map (·.1))).length ≤ sizeLine by omega))))
    exact hR s.heap (listText (done.map (·.1))) _ _ (by omega) (fun _ _ _ e => e)
  | succ k ih =>
    intro i s acc c done hk hi hk0 hP hacc hdone hm hR
    have hlt : i < items.size := by omega
    have hrep := hT i items[i] (by simp [hlt])
    have hpl := piled_le (m := m) (ts := done.map (·.1)) fun t ht => by
      obtain ⟨p, hp, rfl⟩ := List.mem_map.mp ht
      exact hm p hp
    rw [List.length_map, hdone] at hpl
    have hmul : (m + 2) * i ≤ (m + 2) * items.size := Nat.mul_le_mul_left _ hi
    refine codeAny_builtin F.entry_list_repr_loop ?_
    show wpAny _ _ (Builtin.«list.__repr__.loop» ⟨[.ref a, .int i 0, .ref Pa, .int ((b + piled (done.map (·.1)) : Nat) : Int) 0], []⟩) _ _ s
    rw [repr_loop_tree]
    refine wpAny_bind (wpAny_listItems (hk0 _ _ ha) hda ?_)
    have hsome : items[(i : Int).toNat]? = some items[i] := by simp [hlt]
    simp only [hsome]
    rw [Int.toNat_natCast]
    have hul := units_loop A ⟨[.ref a, .int i 0, .ref Pa, .int ((b + piled (done.map (·.1)) : Nat) : Int) 0], []⟩
    refine wpAny_bind (wpAny_holding (hrep (b + piled (done.map (·.1)) + 1) (by omega) _ _ _ _ (Nat.lt_of_le_of_lt (Nat.add_le_add_right hul 4) (by omega)) hk0 fun t tk ht => ?_))
    refine wpAny_bind (wpAny_mkStr ?_ (show t.length ≤ sizeLine by omega))
    refine wpAny_bind ?_
    show wpAny _ _ (updateSeq Pa _) _ _ _
    have hasz : acc.size ≤ sizeLine := by
      have e1 : acc.toList.length = acc.size := by simp
      have e2 : (strValues done).length = done.length := by simp [strValues]
      have e3 : i ≤ (m + 2) * items.size := Nat.le_trans hi (Nat.le_mul_of_pos_left _ (by omega))
      rw [hacc] at e1; omega
    refine wpAny_updateSeq hP rfl (wpAny_pure ⟨F.quiet_list_repr_loop _, ?_⟩) hasz
    have e1 : ((i : Int) + 1) = ((i + 1 : Nat) : Int) := by omega
    have e2 : b + piled (done.map (·.1)) + (t.length + 2) = b + piled ((done ++ [(t, tk)]).map (·.1)) := by
      rw [List.map_append, piled_append]
      simp [piled]
      omega
    rw [e1]
    show codeAny _ _ (.builtin "list.__repr__.loop" ⟨[.ref a, rawInt ((i + 1 : Nat) : Int), .ref Pa, rawInt ((b + piled (done.map (·.1)) + (t.length + 2) : Nat) : Int)], []⟩) _ _
    rw [e2]
    have nP : ∀ c o, h0.get? c = some o → Pa ≠ c := fun c o e z => by
      rw [z, e] at hP0
      cases hP0
    refine ih (i + 1) _ (acc.push (.str t tk)) _ (done ++ [(t, tk)]) (by omega) hlt (fun c o e => (Heap.get?_update_other _ _ (nP c o e)).trans (hk0 c o e)) (Heap.get?_update_self _ hP rfl) (by simp [hacc, strValues]) (by rw [List.length_append, hdone]; rfl)
      (fun p hp => ?_) fun h' t' u tk' ht' hh => ?_
    · rcases List.mem_append.mp hp with z | z
      · exact hm p z
      · rw [List.mem_singleton.mp z]
        exact ht
    · exact hR h' t' u tk' ht' fun b o hb e => hh b o hb ((Heap.get?_update_other _ _ (fun z : Pa = b => hb z.symm)).trans e)
end
section
variable {prog : Program} {w : World} {A : Around} {E : Value → Shared → Prop} {s : Shared}
/-- {xs}, a list: some text -/
theorem fmt_list {a : Addr} {items : Array Value} {n m : Nat} {Q : Value → Shared → Prop} (hu : A.units + 8 < cLine) (ha : s.heap.get? a = some { cls := .type "list", data := .seq items n })
    (hT : ∀ (i : Nat) (x : Value), items[i]? = some x → Tx prog w s.heap m x) (hsz : (m + 2) * items.size + 2 + m ≤ sizeLine)
    (h : ∀ h' (t : Str) (u : Tok) tk, t.length ≤ (m + 2) * items.size + 5 → (∀ b o, s.heap.get? b = some o → h'.get? b = some o) → Q (.str t u) { s with heap := h', toks := tk }) : wpAny (model prog w) A (formatField (.ref a) Str.empty) Q E s := by
  refine wpAny_formatField_slot (T := "list") (idr := "list.__repr__") (fun _ _ => nofun) (by omega) ⟨_, ha, rfl⟩ F.slot_list_format F.slot_list_str F.slot_list_repr.toG ?_
  have hs0 : ({ s with toks := s.toks + 1 } : Shared).heap = s.heap := rfl
  refine wpAny_call (codeAny_call_builtin F.slot_list_repr.plain F.entry_list_repr (F.slot_list_repr.check _ _ _ _ _ _ _ _ ⟨_, ha, rfl⟩ (F.args_list_repr_1 _) ?_))
  show wpAny _ _ (Builtin.listReprAt 0 ⟨[.ref a], []⟩) _ _ { s with toks := s.toks + 1 }
  have fin : ∀ h' (t : Str) (u : Tok) tk, t.length ≤ (m + 2) * items.size + 5 → (∀ b o, s.heap.get? b = some o → h'.get? b = some o) → ∃ x t', Value.str t u = .str x t' ∧ Q (.str t u) { s with heap := h', toks := tk } :=
    fun h' t u tk h1 h2 => ⟨t, u, rfl, h h' t u tk h1 h2⟩
  unfold Builtin.listReprAt
  refine wpAny_bind (wpAny_of_eq (a := (Value.ref a, ([] : List Value))) (by first | rfl | (simp only [slotArgs]; rfl)) ?_)
  show wpAny _ _ (Builtin.List.listItems (.ref a) >>= _) _ _ { s with toks := s.toks + 1 }
  refine wpAny_bind (wpAny_listItems (s := { s with toks := s.toks + 1 }) ha rfl ?_)
  by_cases he : items.isEmpty = true
  · refine PySem.W.KFB.if_so he (wpAny_bind (wpAny_rule ?_))
    refine wpAny_bind (wpAny_mkStr (wpAny_pure ?_) (by decide +kernel))
    exact fin s.heap _ _ _ (Nat.le_trans (by decide +kernel : ("[]" : Str).length ≤ 5) (Nat.le_add_left _ _)) fun _ _ e => e
  · refine PySem.W.KFB.if_not (by simpa using he) ?_
    refine wpAny_bind (wpAny_stack_any fun st => ?_)
    dsimp only
    refine wpAny_ite_split (fun _ => ?_) (fun _ => ?_)
    · refine wpAny_bind (wpAny_rule ?_)
      refine wpAny_bind (wpAny_mkStr (wpAny_pure ?_) (by decide +kernel))
      exact fin s.heap _ _ _ (Nat.le_trans (by decide +kernel : ("[...]" : Str).length ≤ 5) (Nat.le_add_left _ _)) fun _ _ e => e
    · refine wpAny_bind (m := newList []) (wpAny_newObj_type ?_)
      refine wpAny_pure ⟨F.quiet_list_repr_loop _, ?_⟩
      have q := run_loop (prog := prog) (w := w) (A := A.in1.in1) (h0 := s.heap) (a := a) (Pa := s.heap.objs.size) (items := items) (m := m) (b := 0) (R := fun r s' => match r with
          | .ok (.ret v) => ∃ x t, v = Value.str x t ∧ Q v s'
          | .ok _ => False
          | .error e => E e s') (Heap.get?_none_of_le (Nat.le_refl _)) hT (by omega) (by show A.units + 2 + 5 < cLine; omega) ha rfl items.size 0
          { s with heap := s.heap.push { cls := .type "list", data := .seq #[] }, toks := s.toks + 1 } #[] 0 [] (by omega) (by omega) (fun c o e => Heap.get?_push_of_some _ e) (Heap.get?_push_size _ rfl) rfl rfl (fun p hp => absurd hp (by simp)) ?_
      · exact q
      · intro h' t u tk ht hk
        exact fin h' t u tk (by omega) fun b o e => hk b o (Nat.ne_of_lt (Heap.lt_size e)) (Heap.get?_push_of_some _ e)
end
end Txs
namespace Sup
open PySem PySem.Spec PyProof.Rows L2
/-- what a shown list may hold: whole numbers, tuples of whole numbers -/
def Shown (H : Hp) (xs : List V) : Prop := ∀ v ∈ xs, (∃ i : Int, v = .int i ∧ i.natAbs.log2 < 1920) ∨ ∃ (t : Addr) (ns : List Int), v = .ref t ∧ H t = some (.tup (ns.map V.int)) ∧ ns.length ≤ 10 ∧ ∀ i ∈ ns, i.natAbs.log2 < 1920
theorem reprs_int {prog : Program} {w : World} : ∀ {ns : List Int} {its : List Value}, Vals (ns.map V.int) its → (∀ i ∈ ns, i.natAbs.log2 < 1920) → ReprAll prog w its (ns.map fun i => Str.ofString (toString i))
  | [], _, r, _ => by
    cases r
    exact .nil
  | i :: ns, _, r, h => by
    cases r with
    | cons r1 r2 =>
      obtain ⟨t, rfl⟩ := r1
      exact .cons (ReprIs.int t (h i List.mem_cons_self)) (reprs_int r2 fun z hz => h z (List.mem_cons_of_mem _ hz))
def tFmtL (te : TE) : TE := fun σ H Q => te σ H fun x H1 => ∃ (a : Addr) (xs : List V), x = .ref a ∧ H1 a = some (.lst xs) ∧ xs.length ≤ 60 ∧ Shown H1 xs ∧ ∀ y : Str, y.length ≤ 2000000 → Q (.str y) H1
theorem pe_fmtL {X : Cx} {e : Expr} {te : TE} {pos : Pos} (hu : X.A.units + 64 < cLine) (he : PE X e te) : PE X (.FormattedValue e (-1) none pos) (tFmtL te) := by
  refine ⟨fun pins s σ H Q I h => ?_⟩
  refine wpAny_FormattedValue_plain (thn (he.run pins s σ H _ I h) fun v s1 hv => ?_)
  obtain ⟨x, H1, I1, r1, a, xs, rfl, ht, hlen, hsh, q⟩ := hv
  cases r1
  obtain ⟨_, its, n, rv, ho⟩ := (show ObjOk X.prog X.w H1 s1.heap a (.lst xs) from I1.hok a _ ht)
  have hl : its.length = xs.length := rv.length.symm
  have hsz : (20000 + 2) * its.toArray.size + 2 + 20000 ≤ sizeLine := by
    rw [List.size_toArray, hl, sizeLine_eq]
    omega
  refine Txs.fmt_list (m := 20000) (by omega) ho (fun i y hy => ?_) hsz fun h' t u tk htl hk => ⟨.str t, H1, I1.kept hk, ⟨u, rfl⟩, q t ?_⟩
  · have hy' : its[i]? = some y := by simpa using hy
    have hi : i < xs.length := by
      rw [← hl]
      exact (List.getElem?_eq_some_iff.mp hy').1
    obtain ⟨u, hu', ru⟩ := rv.get (List.getElem?_eq_getElem hi)
    rw [hy'] at hu'
    obtain rfl := Option.some.inj hu'
    rcases hsh _ (List.getElem_mem hi) with ⟨j, ej, hj⟩ | ⟨t, ns, et, htt, h10, hns⟩
    · rw [ej] at ru
      obtain ⟨tk, rfl⟩ := ru
      exact (Txs.Tx.int tk hj).mono (by decide)
    · rw [et] at ru
      obtain rfl : y = Value.ref t := ru
      obtain ⟨its2, r2, ⟨o, ho2, hc2, n2, hd2⟩, _⟩ := I1.tuple (.inl (.inl htt))
      have T := Txs.Tx.tup (prog := X.prog) (w := X.w) (h0 := s1.heap) ho2 hc2 hd2 (reprs_int r2 hns)
      refine T.mono ?_
      have h1 := fmt_text (ns.map fun i => Str.ofString (toString i))
      have h2 := Txs.piled_le (m := 1921) (ts := ns.map fun i => Str.ofString (toString i)) fun z hz => by
        obtain ⟨i, hi, rfl⟩ := List.mem_map.mp hz
        have e := int_text_length_le (k := 1920) (by decide) (hns i hi)
        rw [PySem.ofString_length]
        exact e
      rw [List.length_map] at h2
      have h3 : (1921 + 2) * ns.length ≤ (1921 + 2) * 10 := Nat.mul_le_mul_left _ h10
      omega
  · rw [List.size_toArray, hl] at htl
    omega
end Sup

namespace Sup
open PySem PySem.Spec PyProof.Rows L2 NdefX
/-- the form of super().__init__('..') -/
theorem form_const (env : Env) {p0 p1 p2 p3 q : Pos} {c : Const} {j : Nat} (hln : (p2.endLine == p3.line) = true) : eval (.Call (.Attribute (.Call (.Name "super" p0) [] [] p1) "__init__" p2) [.Constant c j q] [] p3) env = (do
      let ov ← attributeBase (.Call (.Name "super" p0) [] [] p1) "__init__" env (eval (.Call (.Name "super" p0) [] [] p1) env)
      standAt p2.atName
      let (g, first) ← holding [ov] (getMethod ov "__init__" (do return (← importBound (.Call (.Name "super" p0) [] [] p1) env).getD true))
      callWith p3 g first (backTo p3 (starEach [.Constant c j q] env)) []) := by
  have hp : methodCallPos true (.Call (.Name "super" p0) [] [] p1) env p2 p3 = pure p3 := by
    unfold methodCallPos
    rw [hln]
    rfl
  show (do
    let ov ← attributeBase (.Call (.Name "super" p0) [] [] p1) "__init__" env (eval (.Call (.Name "super" p0) [] [] p1) env)
    standAt p2.atName
    let (g, first) ← holding [ov] (getMethod ov "__init__" (do return (← importBound (.Call (.Name "super" p0) [] [] p1) env).getD true))
    let cp ← methodCallPos true (.Call (.Name "super" p0) [] [] p1) env p2 p3
    callWith cp g first (backTo p3 (starEach [.Constant c j q] env)) []) = _
  rw [hp]
  rfl
/-- an error without a field is made -/
def spErr0 (C : Addr) : Sp := fun vs H Q _ => ∃ a : Addr, vs = [.ref a] ∧ H a = some (exo a C none) ∧ Q .non H
/-- an error that keeps a copy of a list -/
def spErrL (C : Addr) (fl : Str) : Sp := fun vs H Q _ => ∃ (a l : Addr) (xs : List V), vs = [.ref a, .ref l] ∧ H a = some (exo a C none) ∧ H l = some (.lst xs) ∧ xs.length ≤ 60 ∧ Shown H xs ∧
  ∀ c dx, H c = none → H dx = none → dx ≠ a → c ≠ a → dx ≠ c → Q .non (upd (upd (upd H c (.lst xs)) dx (exd dx [(fl, .ref c)])) a (exo a C (some dx)))
section
variable {P : Program} {w : World} {K : PySem.W.Frag} {mg : Str → Option Value} {base : Heap} {C f cda cc : Addr} {qual pn : Str} {st : Stmt} {N : List Str}
theorem err_nil {lit : Str} {j : Nat} {q1 p0 p1 p2 p3 p4 : Pos} {ar : Arg} (T : ErrTxt P K mg C f cda cc qual st)
    (hbd : defBody st = [.Expr (.Call (.Attribute (.Call (.Name "super" p0) [] [] p1) "__init__" p2) [.Constant (.str lit) j q1] [] p3) p4]) (hln : (p2.endLine == p3.line) = true)
    (S : NScope ["self", "__class__"] ["self"] ["__class__"] (defScope st))
    (hb : ∀ (oc : Value) (od an : Option Addr) (kV doc pm ct : Value) (us : List Value), us.length = 1 →
      bindArgs (PySem.W.fnX "__init__" qual (defArgs st) (defBody st) (defScope st) [("__class__", cc)] .none kV doc pm an (.ref cda) ct) ⟨us, []⟩ = pure ((["self"] : List Str).zip us))
    (hks : (defScope st).names.lookup ("super" : Str) = some .globalImplicit)
    (har : ((defArgs st).posonlyargs ++ (defArgs st).args).head? = some ar) (har2 : ar.arg = "self") :
    ∃ fd, FnOk P w K mg base CX0 2 f fd ["self"] (spErr0 C) ∧ Binds K fd ["self"] [] := by
  refine sup_fn T S (fun vs H Q E h => ?_) hb fun A outer s H vs Q E hsp hroom s1 I => ?_
  · obtain ⟨a, rfl, _⟩ := h
    rfl
  · obtain ⟨a, rfl, ha, hQ⟩ := hsp
    rw [hbd]
    refine ks_wpAt_execs_cons (ks_wpAt_Expr_any ?_ (by show ((defScope st).kind == _ && _) = false; rw [S.kind]; rfl))
    refine _root_.PySem.wpAt_mono (super_init (Q := fun H1 => Q .non H1) T I rfl hks (S.frk _ (by simp)) (by rw [har2]; exact S.par _ (by simp)) har (by rw [har2]; rfl) rfl ha
      (pe_str (x := lit)) ⟨Nat.le_refl _, ha, hQ⟩ (form_const _ hln) (by rfl)) (fun v s' hh => ?_) fun _ _ z => z
    obtain ⟨H1, I1, q⟩ := hh
    exact _root_.PySem.wpAt_of_wpAny (pss_nil.run [] s' _ H1 { nx := fun _ H' => Q .non H', rt := Q } I1 q)
theorem err_lst {lit : Str} {j : Nat} {q1 q2 q3 q4 p0 p1 p2 p3 p4 r1 r2 r3 r4 r5 r6 : Pos} {ar : Arg} (T : ErrTxt P K mg C f cda cc qual st)
    (hbd : defBody st = [.Expr (.Call (.Attribute (.Call (.Name "super" p0) [] [] p1) "__init__" p2) [.JoinedStr [.Constant (.str lit) j q1, .FormattedValue (.Name pn q2) (-1) none q3] q4] [] p3) p4,
      .Assign [.Attribute (.Name "self" r1) pn r2] (.Call (.Name "list" r3) [.Name pn r4] [] r5) r6]) (hln : (p2.endLine == p3.line) = true)
    (S : NScope ["self", pn, "__class__"] ["self", pn] ["__class__"] (defScope st))
    (hb : ∀ (oc : Value) (od an : Option Addr) (kV doc pm ct : Value) (us : List Value), us.length = 2 →
      bindArgs (PySem.W.fnX "__init__" qual (defArgs st) (defBody st) (defScope st) [("__class__", cc)] .none kV doc pm an (.ref cda) ct) ⟨us, []⟩ = pure ((["self", pn] : List Str).zip us))
    (hks : (defScope st).names.lookup ("super" : Str) = some .globalImplicit)
    (har : ((defArgs st).posonlyargs ++ (defArgs st).args).head? = some ar) (har2 : ar.arg = "self")
    (hd1 : (pn == ("__debug__" : Str)) = false) (hd2 : (pn == ("__classdict__" : Str)) = false)
    (hlit : lit.length ≤ 1000) (hno : PySem.W.findIn K (.ref C) pn = some none)
    (hgl : (defScope st).names.lookup ("list" : Str) = some .globalImplicit) (hml : mg "list" = none) :
    ∃ fd, FnOk P w K mg base CX0 2 f fd ["self", pn] (spErrL C pn) ∧ Binds K fd ["self", pn] [] := by
  refine sup_fn T S (fun vs H Q E h => ?_) hb fun A outer s H vs Q E hsp hroom s1 I => ?_
  · obtain ⟨a, l, xs, rfl, _⟩ := h
    rfl
  · obtain ⟨a, l, xs, rfl, ha, hl, h60, hsh, hQ⟩ := hsp
    have vN : Vis (ncx CX0 P w K mg base ["self", pn, "__class__"] (supNF qual st cda cc) f A outer s H E).env.scope pn := .inl (S.par _ (by simp))
    have vS : Vis (ncx CX0 P w K mg base ["self", pn, "__class__"] (supNF qual st cda cc) f A outer s H E).env.scope "self" := .inl (S.par _ (by simp))
    rw [hbd]
    refine two_run (te := fun σ H Q => tJs [tC (.str lit), tFmtL (tVar 1)] Str.empty σ H fun out H1 => Q (.str out) H1) T I rfl hks (S.frk _ (by simp)) (by rw [har2]; exact S.par _ (by simp)) har (by rw [har2]; rfl) rfl ha
      (pe_joined (.cons pe_str (.cons (pe_fmtL hroom.units (pe_var (i := 1) rfl vN hd1 hd2)) .nil)))
      (ps_ost (pe_var (i := 0) rfl vS) (pe_callTy call_list_of hgl hml (by decide +kernel) (pa_cons (pe_var (i := 1) rfl vN hd1 hd2) pa_nil))) ?_ (form_of _ hln) (by rfl) (by show ((defScope st).kind == _ && _) = false; rw [S.kind]; rfl)
    have e0 := lit_small hlit
    refine ⟨lit, rfl, by rw [sizeLine_eq]; omega, _, rfl, l, xs, rfl, hl, h60, hsh, fun y hy => ⟨y, rfl, ?_, Nat.le_refl _, ha, ?_⟩⟩
    · rw [Str.length_append, sizeLine_eq]
      omega
    · refine ⟨_, rfl, l, xs, rfl, .inl (SqL.of hl), fun c hc => ?_⟩
      have nca : c ≠ a := fun z => by
        rw [z, ha] at hc
        cases hc
      refine ⟨_, rfl, a, C, rfl, T.oex, hno, .inl ⟨by rw [upd_ne (Ne.symm nca)]; exact ha, fun dx h1 h2 => ?_⟩⟩
      have ndc : dx ≠ c := fun z => by
        rw [z, upd_same] at h1
        cases h1
      rw [upd_ne ndc] at h1
      exact hQ c dx hc h1 h2 nca ndc
end
section
variable {X : Cx} {x : Str} {C fI : Addr} {k : Nat} {fd : FuncData} {ps : List Str} {sp : Sp} {e : Expr} {es : List Expr} {ta : TA} {p pos : Pos}
/-- what follows where an own error has just been made, for positional values vs in the heap H1 -/
structure MkV (C : Addr) (sp : Sp) (vs : List V) (H1 : Hp) (Q : VK) : Prop where
  few : vs.length ≤ 1000
  run : ∀ a, H1 a = none → sp (.ref a :: vs) (upd H1 a (exo a C none)) (fun v H2 => v = .non ∧ Q (.ref a) H2) (fun _ _ _ => False)
theorem run_mkV {pins : List (Addr × Obj)} {σ : L2.St} {H1 : Hp} {s1 : Shared} {us : List Value} {vs : List V} {Q : VK} (T : OexC X.K C) (iC : PySem.W.findIn X.K (.ref C) "__init__" = some (some (.ref fI))) (tI : PySem.W.typeIn X.K (.ref fI) = some (.type "function"))
    (F1 : FnOk X.prog X.w X.K X.mg X.base CX0 k fI fd ps sp) (hr : Room (k + 1) X.A) (hb : Binds X.K fd ps []) (I1 : L2.Inv X pins σ H1 s1) (r1 : Vals vs us) (h : MkV C sp vs H1 Q) :
    wpAny (model X.prog X.w) X.A (call (.ref C) us) (EP X pins σ Q) X.xe s1 := by
  obtain ⟨nm, q, N, bs, bm, sn, sub, ab, col, dd, k0, k1, k2, k3, k5, hC, hbm⟩ := T.cls
  obtain ⟨hz, q1⟩ := h
  obtain ⟨hp, g, dr, tk, os⟩ := s1
  have hsz : hp.objs.size ≤ hp.objs.size + 1 := Nat.le_succ _
  have hn : H1 (hp.objs.size + 1) = none := I1.hok.fresh hsz
  have hq := q1 (hp.objs.size + 1) hn
  have kk : ∀ b o, hp.get? b = some o → ((hp.push (PySem.W.kdv_tup us)).push (PySem.HandSPX.excO C hp.objs.size)).get? b = some o :=
    fun b o z => Heap.get?_push_of_some _ (Heap.get?_push_of_some _ z)
  have hget : ((hp.push (PySem.W.kdv_tup us)).push (PySem.HandSPX.excO C hp.objs.size)).get? (hp.objs.size + 1) = some (PySem.HandSPX.excO C hp.objs.size) := by heap_get
  have I2 : L2.Inv X pins σ (upd H1 (hp.objs.size + 1) (exo (hp.objs.size + 1) C none)) ⟨(hp.push (PySem.W.kdv_tup us)).push (PySem.HandSPX.excO C hp.objs.size), g, dr, tk, os⟩ :=
    I1.laid (t' := tk) (a := hp.objs.size + 1) (o := exo (hp.objs.size + 1) C none)
      (h' := (hp.push (PySem.W.kdv_tup us)).push (PySem.HandSPX.excO C hp.objs.size)) kk hsz (exo_ok hget)
  have r2 : Vals (V.ref (hp.objs.size + 1) :: vs) (Value.ref (hp.objs.size + 1) :: us) := .cons rfl r1
  have hl : (Value.ref (hp.objs.size + 1) :: us).length = ps.length := by
    have e := r2.length
    rw [F1.len _ _ _ _ hq] at e
    exact e.symm
  have hus : us.length ≤ sizeLine := by
    rw [← Paired.length r1, sizeLine_eq]
    omega
  have hbd := hb _ (Value.ref (hp.objs.size + 1) :: us) I2.kIn (by rw [List.append_nil]; exact hl)
  rw [List.append_nil] at hbd
  refine wpAny_call (PySem.HandSPX.call_own F.excBase_ValueError (fun Y => PySem.HandSPX.refsVE_contains Y bm hbm) (I1.kIn _ _ hC) (PySem.W.looks_findIn I1.kIn iC) (fun self => PySem.W.bind_fn I1.kIn self tI) hus
    (codeAny_mono (F1.run _ X.stack _ _ ⟨Value.ref (hp.objs.size + 1) :: us, []⟩ (Value.ref (hp.objs.size + 1) :: us) _ _ (fun _ _ _ => False) (hr.make C us []) (I2.env0.make C us []) hbd r2 hq) fun r s' hq' => ?_))
  cases r with
  | error er => exact False.elim hq'
  | ok fl =>
    cases fl with
    | ret u =>
      obtain ⟨v, H2, os2, bare2, un2, hok2, rv, ev, q2⟩ := hq'
      subst ev
      have J := I2.call' (s' := s') (ch := []) os2 un2 hok2 bare2 (fun b z => absurd z (by simp))
      exact ⟨rv, .ref (hp.objs.size + 1), H2, J, rfl, q2⟩
    | next => exact False.elim hq'
    | brk => exact False.elim hq'
    | cont => exact False.elim hq'
theorem pe_mkV (T : OexC X.K C) (iC : PySem.W.findIn X.K (.ref C) "__init__" = some (some (.ref fI))) (tI : PySem.W.typeIn X.K (.ref fI) = some (.type "function"))
    (F1 : FnOk X.prog X.w X.K X.mg X.base CX0 k fI fd ps sp) (hr : Room (k + 1) X.A) (hb : Binds X.K fd ps []) (hg : Gl X x) (hm : X.mg x = some (.ref C)) (ha : PA X (e :: es) ta)
    (hdb : (x == ("__debug__" : Str)) = false := by decide) (he : starEach (e :: es) X.env = (false, eval e X.env) :: starEach es X.env := by rfl) (hpl : (backTo pos (starEach es X.env)).any (·.1) = false := by rfl) :
    PE X (.Call (.Name x p) (e :: es) [] pos) (fun σ H Q => ta σ H fun vs H1 => MkV C sp vs H1 Q) := by
  refine ⟨fun pins s σ H Q I h => ?_⟩
  refine wpAny_Call_Name_kw (ld_glob I hg hm ?_ hdb)
  refine PySem.W.callWith_K (h₀ := X.base) I.ok.mod.kin T.kC
    (thn (ha.run pos pins s σ H _ I h) fun us s1 ⟨vs, H1, I1, r1, q⟩ => ⟨I1.kIn, ?_⟩) he hpl
  exact run_mkV T iC tI F1 hr hb I1 r1 q
theorem pe_mkV0 (T : OexC X.K C) (iC : PySem.W.findIn X.K (.ref C) "__init__" = some (some (.ref fI))) (tI : PySem.W.typeIn X.K (.ref fI) = some (.type "function"))
    (F1 : FnOk X.prog X.w X.K X.mg X.base CX0 k fI fd ps sp) (hr : Room (k + 1) X.A) (hb : Binds X.K fd ps []) (hg : Gl X x) (hm : X.mg x = some (.ref C))
    (hdb : (x == ("__debug__" : Str)) = false := by decide) : PE X (.Call (.Name x p) [] [] pos) (fun σ H Q => MkV C sp [] H Q) := by
  refine ⟨fun pins s σ H Q I h => ?_⟩
  refine wpAny_Call_Name_kw (ld_glob I hg hm ?_ hdb)
  exact PySem.W.callWith_K0 I.kIn T.kC (run_mkV (us := []) T iC tI F1 hr hb I .nil h)
/-- what stands at a is an error of the class at C with these fields -/
def ErrAt (H : Hp) (a C : Addr) (fs : List (Str × V)) : Prop := (H a = some (exo a C none) ∧ fs = []) ∨ ∃ d, H a = some (exo a C (some d)) ∧ H d = some (exd d fs)
theorem ErrAt.inst {pins : List (Addr × Obj)} {σ : L2.St} {H : Hp} {s : Shared} {a : Addr} {fs : List (Str × V)} (I : L2.Inv X pins σ H s) (h : ErrAt H a C fs) :
    ∃ (ox : Obj) (od : Option Obj), PySem.W.InstAt s.heap a ox C od := by
  rcases h with ⟨h, _⟩ | ⟨d, h, hd⟩
  · obtain ⟨t, ho⟩ := exo_at I.hok h
    exact ⟨_, none, ho, rfl, rfl, trivial⟩
  · obtain ⟨t, ho⟩ := exo_at I.hok h
    obtain ⟨mA, hns, _⟩ := exd_at I.hok hd
    obtain ⟨ob, hob, _⟩ := lookIn_ns hns
    exact ⟨_, some ob, ho, rfl, rfl, hob⟩
end
end Sup

namespace Sup
open PySem PySem.Spec PyProof.Rows L2
/-- an own error, ready to be made -/
structure MkE (P : Program) (w : World) (K : PySem.W.Frag) (mg : Str → Option Value) (base : Heap) (nm : Str) (C : Addr) (sp : Sp) (ps : List Str) : Prop where
  oex : OexC K C
  g : mg nm = some (.ref C)
  run : ∃ (f : Addr) (fd : FuncData), PySem.W.findIn K (.ref C) "__init__" = some (some (.ref f)) ∧ PySem.W.typeIn K (.ref f) = some (.type "function") ∧ FnOk P w K mg base CX0 2 f fd ps sp ∧ Binds K fd ps []
section
variable {X : Cx} {nm : Str} {C : Addr} {sp : Sp} {ps : List Str} {e : Expr} {es : List Expr} {ta : TA} {p pos : Pos}
theorem pe_err (M : MkE X.prog X.w X.K X.mg X.base nm C sp ps) (hr : Room 3 X.A) (hg : Gl X nm) (ha : PA X (e :: es) ta)
    (hdb : (nm == ("__debug__" : Str)) = false := by decide) (he : starEach (e :: es) X.env = (false, eval e X.env) :: starEach es X.env := by rfl) (hpl : (backTo pos (starEach es X.env)).any (·.1) = false := by rfl) :
    PE X (.Call (.Name nm p) (e :: es) [] pos) (fun σ H Q => ta σ H fun vs H1 => MkV C sp vs H1 Q) := by
  obtain ⟨f, fd, h1, h2, h3, h4⟩ := M.run
  exact pe_mkV M.oex h1 h2 h3 hr h4 hg M.g ha hdb he hpl
theorem pe_err0 (M : MkE X.prog X.w X.K X.mg X.base nm C sp ps) (hr : Room 3 X.A) (hg : Gl X nm)
    (hdb : (nm == ("__debug__" : Str)) = false := by decide) : PE X (.Call (.Name nm p) [] [] pos) (fun σ H Q => MkV C sp [] H Q) := by
  obtain ⟨f, fd, h1, h2, h3, h4⟩ := M.run
  exact pe_mkV0 M.oex h1 h2 h3 hr h4 hg M.g hdb
end
theorem ErrAt.same {H H' : Hp} {a C : Addr} {fs : List (Str × V)} (h : ErrAt H a C fs) (s : Same H H') : ErrAt H' a C fs := by
  rcases h with ⟨h, e⟩ | ⟨d, h, hd⟩
  · exact .inl ⟨s _ _ h, e⟩
  · exact .inr ⟨d, s _ _ h, s _ _ hd⟩
/-- another object is written -/
theorem ErrAt.upd {H : Hp} {a C p : Addr} {fs : List (Str × V)} {xs : List V} {o : HO} (h : ErrAt H a C fs) (hp : H p = some (.lst xs)) : ErrAt (upd H p o) a C fs := by
  have key : ∀ {b : Addr} {φ : Heap → Prop}, H b = some (.ext φ) → b ≠ p := fun {b φ} e z => by
    rw [z, hp] at e
    cases e
  rcases h with ⟨h, e⟩ | ⟨d, h, hd⟩
  · exact .inl ⟨by rw [upd_ne (key h)]; exact h, e⟩
  · exact .inr ⟨d, by rw [upd_ne (key h)]; exact h, by rw [upd_ne (key hd)]; exact hd⟩
theorem mk_one {C : Addr} {fl : Str} {ok : V → Prop} {v : V} {H1 : Hp} {Q : VK} (hv : ok v) (h : ∀ (a : Addr) (H2 : Hp), H1 a = none → Same H1 H2 → ErrAt H2 a C [(fl, v)] → Q (.ref a) H2) : MkV C (spErr C fl ok) [v] H1 Q := by
  refine ⟨by show 1 ≤ 1000; omega, fun a hn => ⟨a, v, rfl, upd_same, hv, fun dx hdx hne => ⟨rfl, h a _ hn (fun b o e => ?_) (.inr ⟨dx, upd_same, by rw [upd_ne hne, upd_same]⟩)⟩⟩⟩
  rw [upd_ne hne] at hdx
  rw [upd_ne (ne_of_none e hn), upd_ne (ne_of_none e hdx), upd_ne (ne_of_none e hn)]
  exact e
theorem mk_nil {C : Addr} {H1 : Hp} {Q : VK} (h : ∀ (a : Addr) (H2 : Hp), H1 a = none → Same H1 H2 → ErrAt H2 a C [] → Q (.ref a) H2) : MkV C (spErr0 C) [] H1 Q := by
  refine ⟨Nat.zero_le _, fun a hn => ⟨a, rfl, upd_same, rfl, h a _ hn (fun b o e => ?_) (.inl ⟨upd_same, rfl⟩)⟩⟩
  rw [upd_ne (ne_of_none e hn)]
  exact e
theorem mk_lst {C l : Addr} {fl : Str} {xs : List V} {H1 : Hp} {Q : VK} (hl : H1 l = some (.lst xs)) (h60 : xs.length ≤ 60) (hs : Shown H1 xs)
    (h : ∀ (a c : Addr) (H2 : Hp), H1 a = none → H1 c = none → Same H1 H2 → H2 c = some (.lst xs) → ErrAt H2 a C [(fl, .ref c)] → Q (.ref a) H2) : MkV C (spErrL C fl) [.ref l] H1 Q := by
  refine ⟨by show 1 ≤ 1000; omega, fun a hn => ⟨a, l, xs, rfl, upd_same, by rw [upd_ne (ne_of_none hl hn)]; exact hl, h60, fun v hv => ?_, fun c dx hc hdx n1 n2 n3 => ⟨rfl, h a c _ hn ?_ (fun b o e => ?_) ?_ (.inr ⟨dx, upd_same, by rw [upd_ne n1, upd_same]⟩)⟩⟩⟩
  · rcases hs v hv with z | ⟨t, ns, e, ht, r⟩
    · exact .inl z
    · exact .inr ⟨t, ns, e, by rw [upd_ne (ne_of_none ht hn)]; exact ht, r⟩
  · rw [upd_ne n2] at hc
    exact hc
  · rw [upd_ne n2] at hc
    rw [upd_ne n1] at hdx
    rw [upd_ne (ne_of_none e hn), upd_ne (ne_of_none e hdx), upd_ne (ne_of_none e hc), upd_ne (ne_of_none e hn)]
    exact e
  · rw [upd_ne n2, upd_ne (Ne.symm n3), upd_same]
/-- e.f, e an error that stands in the heap -/
def tEx (K : PySem.W.Frag) (n : Str) (te : TE) : TE := fun σ H Q => te σ H fun x H1 => ∃ (a C : Addr) (fs : List (Str × V)) (v : V), x = .ref a ∧ XfC K C ∧ PySem.W.findIn K (.ref C) n = some none ∧ ErrAt H1 a C fs ∧ fs.lookup n = some v ∧ Q v H1
theorem pe_ex {X : Cx} {e : Expr} {te : TE} {pos : Pos} {n : Str} (he : PE X e te) (hb : attributeBase e n X.env (eval e X.env) = eval e X.env := by rfl) : PE X (.Attribute e n pos) (tEx X.K n te) := by
  refine ⟨fun pins s σ H Q I h => attr_of hb (thn (he.run pins s σ H _ I h) fun u s1 hh => ?_)⟩
  obtain ⟨x, H1, I1, rx, a, C, fs, v, rfl, T, hno, hE, hl, q⟩ := hh
  obtain rfl : u = Value.ref a := rx
  rcases hE with ⟨_, e0⟩ | ⟨d, h1, h2⟩
  · rw [e0] at hl
    cases hl
  · obtain ⟨t, ho⟩ := exo_at I1.hok h1
    obtain ⟨mA, hns, hrel⟩ := exd_at I1.hok h2
    obtain ⟨od, hod, hlk⟩ := lookIn_ns hns
    obtain ⟨u, hu, ru⟩ := RelO.some_of (v := v) (o := mA n) (by rw [← hl]; exact hrel n)
    have J : PySem.W.InstAt s1.heap a _ C (some od) := ⟨ho, rfl, rfl, hod⟩
    exact HandSPX.exc_get I1.kIn J T.ga T.gg T.exC (PySem.W.findObj_own T.hdC hno rfl (by rw [hlk, hu])) (handed_of ru) ⟨v, H1, I1.tok _, ru, q⟩
end Sup

namespace Law
open PySem PySem.Spec PyProof.Rows L2 Sup
/-! isinstance of a caught error that has its own dict -/
section
open PySem.W
variable {prog : Program} {w : World} {A : Around} {E : Value → Shared → Prop} {s : Shared} {K : Frag} {x D : Addr} {ox : Obj} {od : Option Obj}
theorem find_data {C : Addr} {nm : Str} {a g : Value} (h1 : (clsIn K C).isSome = true) (h2 : findIn K (.ref C) nm = some (some a)) (h3 : specialIn K a "__get__" = some (some g)) (h4 : takesIn K a = some true) :
    findObj K C od nm = some (.bind g a) := by
  obtain ⟨cd, hcd⟩ := Option.isSome_iff_exists.mp h1
  simp [findObj, hcd, h2, h3, h4]
theorem class_of_err (T : ExcC K D) {Q : Option Value → Shared → Prop} (X : K.In s.heap) (I : InstAt s.heap x ox D od) (h : Q (some (.ref D)) { s with toks := s.toks + 1 }) :
    wpAny (model prog w) A (getAttr? (.ref x) "__class__") Q E s := by
  have isS : (clsIn K D).isSome = true := by
    obtain ⟨cd, hcd, _⟩ := any_some T.hd
    rw [hcd]; rfl
  have hf : findObj K D od "__class__" = some (.bind (.builtin "getset_descriptor.__get__") (.builtin "object.__class__")) :=
    find_data isS T.ha T.hn T.ht
  obtain ⟨hp, g, d, t, os⟩ := s
  have M0 := I.type (M := model prog w)
  have M1 := looks_findIn (M := model prog w) X T.hg
  have M2 := looks_findIn (M := model prog w) X T.hk
  have M3 := looks_find (M := model prog w) X I hf
  have sub : Looks (model prog w) hp (isInstance (.ref x) (.type "BaseException")) true := M0.andThen (looks_subIn X T.hs)
  have n0 : (false && onTheHeap (Value.builtin "BaseException.__getattribute__")) = false := rfl
  have n1 : (onTheHeap (Value.ref D) && Value.builtin "BaseException.__getattribute__" == Value.builtin "object.__getattribute__") = false := by
    have z : (Value.builtin "BaseException.__getattribute__" == Value.builtin "object.__getattribute__") = false := by decide +kernel
    rw [z]; rfl
  unfold getAttr? getAttrBy? getAttrBy
  refine wpAny_bind (wpAny_mkText (wpAny_bind (wpAny_attempt (wpAny_holding (wpAny_bind (M0.at (wpAny_bind (M1.at ?_))))))))
  show wpAny _ _ (if (onTheHeap (Value.ref D) && Value.builtin "BaseException.__getattribute__" == Value.builtin "object.__getattribute__") = true
    then _ else _) _ _ _
  rw [n1, if_neg Bool.false_ne_true]
  unfold getAttrByItsOwn hookBefore
  refine wpAny_bind ?_
  rw [if_pos (show onTheHeap (Value.ref D) = true from rfl)]
  refine M2.at ?_
  refine wpAny_bind (wpAny_attempt (wpAny_holding ?_))
  unfold callGetattribute
  rw [n0, if_neg Bool.false_ne_true]
  unfold boundAndCalled
  rw [PySem.F.excAttr_ValueError.ga.bind (.ref x)]
  refine wpAny_bind (wpAny_pure ?_)
  show wpAny _ _ (call (.builtin "BaseException.__getattribute__")
    [.ref x, .str "__class__" t]) _ _ _
  refine wpAny_call (codeAny_call_builtin PySem.F.excAttr_ValueError.ga.plain PySem.F.entry_bexc_ga ?_)
  refine @check_slot (model prog w) _ _ ⟨hp, g, d, t + 1, os⟩ "BaseException.__getattribute__" "BaseException" "__getattribute__" (.ref x)
    [.str "__class__" t] [] _ (by decide +kernel) (by decide +kernel) sub (PySem.F.args_bexc_ga (.ref x) (.str "__class__" t)) ?_
  unfold Builtin.«object.__getattribute__»
  refine wpAny_bind (wpAny_of_eq (a := ((Value.ref x : Value), [Value.str "__class__" t])) (by first | rfl | (simp only [slotArgs]; rfl)) ?_)
  refine wpAny_bind (wpAny_pure (wpAny_bind (M0.at (wpAny_bind (M3.at ?_)))))
  show wpAny _ _ (holding [Value.builtin "object.__class__"] (call (.builtin "getset_descriptor.__get__")
    [.builtin "object.__class__", .ref x, .ref D]) >>= ret) _ _ _
  refine wpAny_bind (wpAny_holding (wpAny_call (class_get (s := ⟨hp, g, d, t + 1, os⟩) (ox := ox) (od := od) X I T.hm ?_)))
  refine wpAny_pure ?_
  show wpAny _ _ (handedOut (.ref D)) _ _ _
  rw [handedOut_of (v := .ref D) rfl]
  first
    | exact wpAny_pure (wpAny_pure h)
    | exact wpAny_pure h
    | exact wpAny_pure (wpAny_bind (wpAny_pure (wpAny_pure h)))
theorem kit_err (T : ExcC K D) : KitX K (.ref x) (.ref D) (fun h => ∃ od, InstAt h x ox D od) where
  ty := fun _ _ _ ⟨_, I⟩ => I.type
  it := fun _ _ X _ => by
    obtain ⟨cdD, hcD, _⟩ := any_some T.hd
    unfold clsIn at hcD
    split at hcD
    · rename_i ho
      intro A' Q' E' s' k q
      unfold isType loadHead
      exact wpAny_bind (wpAny_loadPart (k _ _ (X _ _ ho)) (wpAny_pure q))
    · cases hcD
  ne := fun h tp dd its n sl X htp => by
    obtain ⟨cdD, hcD, _⟩ := any_some T.hd
    unfold clsIn at hcD
    split at hcD
    · rename_i ho
      refine Bool.eq_false_iff.mpr fun q => ?_
      have e : D = tp := Value.ref.inj (beq_iff_eq.mp q)
      subst e
      have z := (X _ _ ho).symm.trans htp
      cases z
    · cases hcD
  ca := fun X I k => by
    obtain ⟨od, I⟩ := I
    exact class_of_err T X I k
end
/-- isinstance(e, c), e the exception that the suite holds, its own dict at d -/
def rIsD (K : PySem.W.Frag) (D a : Addr) (cls : Value) (d : Option Addr) : List V → Hp → VK → Prop := fun xs H Q =>
  ∃ (c : V) (cv : Value) (b : Bool) (dd : Addr) (fs : List (Str × V)), xs = [.ref a, c] ∧ cls = .ref D ∧ d = some dd ∧ H dd = some (.xd fs) ∧ (∀ u, RelV c u → u = cv) ∧ PySem.W.kitOne K (.ref D) cv = some b ∧ Q (.bl b) H
theorem call_isD {X : Cx} {a D : Addr} {oe : Obj} {cls : Value} {d : Option Addr} {pn : List (Addr × Obj)} (T : ExcC X.K D) (hz : Zc cls d oe) (hf : ∃ vs, oe.data = .fields vs) :
    CallR (X.suite a ((a, oe) :: pn)) (.builtin "isinstance") (rIsD X.K D a cls d) := by
  intro pins s σ H xs us Q I r h
  obtain ⟨c, cv, b, dd, fs, rfl, rfl, rfl, hd, hcv, e, q⟩ := h
  cases r with
  | cons rx rr =>
    cases rr with
    | cons rt rr =>
      cases rr
      cases rx
      have ec := hcv _ rt
      subst ec
      obtain ⟨hget, _⟩ := I.pin (a, oe) (List.mem_append.mpr (.inl List.mem_cons_self))
      obtain ⟨vs, hv⟩ := hf
      obtain ⟨mA, hns, _⟩ := (show ObjOk X.prog X.w H s.heap dd (.xd fs) from I.hok dd _ hd)
      obtain ⟨ob, ho, _⟩ := lookIn_ns hns
      have J : ∃ od, PySem.W.InstAt s.heap a oe D od := ⟨some ob, hget, hz.1, by unfold PySem.W.notCls; rw [hv], by rw [hz.2]; exact ho⟩
      exact PySem.W.kia_one (kit_err T) I.kIn J e (fun z => nomatch z) fun tk => ⟨.bl b, H, I.kept (t' := tk) fun _ _ z => z, rfl, q⟩
end Law

/-! Operators, repr and call of instances of own classes. -/
namespace Own
open PySem PySem.Spec PyProof.Rows L2
section
variable {X : Cx} {CX : CXT} {k : Nat} {C g : Addr} {sp : Sp} {E : XK} {pins : List (Addr × Obj)} {σ : L2.St} {H : Hp} {s : Shared}
theorem not_ni {v : V} {u : Value} (r : RelV v u) : u ≠ .notImplemented := fun z => by
  subst z
  cases v <;> first | (cases r; done) | (obtain ⟨_, z⟩ := r; cases z; done) | (obtain ⟨_, z⟩ := r; nomatch z)
theorem back {Q : VK} {u : Value} {s' : Shared} (h : EP X pins σ Q u s') : PySem.W.CmpBack (EP X pins σ Q) u s' := by
  obtain ⟨v, H', I', rv, q⟩ := id h
  have n := not_ni rv
  cases u <;> first | exact h | exact absurd rfl n
/-- a promise of an own method, asked at other surroundings with the same frames -/
theorem run_at {A : Around} {Q : VK} {us : List Value} {vs : List V} (F : FnR X.prog X.w X.K X.mg X.base CX k g sp) (hr : Room k A) (hfr : A.frames = some X.stack) (hx : Passes CX X E) (I : Inv X pins σ H s) (r : Vals vs us) (h : sp vs H Q E) :
    wpAny (model X.prog X.w) A (call (.ref g) us) (EP X pins σ Q) X.xe s := by
  have e0 : Env0 X.prog X.w X.K X.mg X.base A X.stack s H := by
    have e := I.env0
    exact ⟨hfr, e.mod, e.bs, e.bsz, e.funs, e.frf, e.hok, e.bare⟩
  refine wpAny_call (codeAny_mono (F A X.stack s H us vs Q E hr e0 r h) fun r s' hq => ?_)
  cases r with
  | error e => exact hx pins σ H s e s' I hq
  | ok fl =>
    cases fl with
    | ret u => exact I.after hq
    | next => exact False.elim hq
    | brk => exact False.elim hq
    | cont => exact False.elim hq
/-- two instances of the class at C, and what the operator's def promises of them -/
def rOwn (C : Addr) (sp : Sp) (E : XK) : R2 := fun x y H Q => ∃ a b dx dy fs gs, x = .ref a ∧ y = .ref b ∧ H a = some (.ins C dx fs) ∧ H b = some (.ins C dy gs) ∧ sp [.ref a, .ref b] H Q E
theorem op_cmp {op : CmpOp} (hop : ∀ v u, compareOp op v u = richCompare op v u) (F : FnR X.prog X.w X.K X.mg X.base CX k g sp) (hs : PySem.W.findIn X.K (.ref C) (cmpInfo op).2.1 = some (some (.ref g))) (hf : PySem.W.isFn X.K (.ref g) = true)
    (hr : Room k X.A) (hx : Passes CX X E) : OpR X (compareOp op) (rOwn C sp E) := by
  intro pins s σ H x y v u Q I rx ry h
  obtain ⟨a, b, dx, dy, fs, gs, rfl, rfl, ha, hb, hsp⟩ := h
  cases rx
  cases ry
  obtain ⟨mA, J, _⟩ := ins_get I.hok ha
  obtain ⟨mB, J', _⟩ := ins_get I.hok hb
  obtain ⟨od, J, _⟩ := J.look
  obtain ⟨od', J', _⟩ := J'.look
  obtain ⟨m, hF⟩ := I.fr
  rw [hop]
  refine PySem.W.cmp_K (op := op) (tb := .ref C) hr.units0 hF I.ok.mod.kin J J'.type (by simp [PySem.W.notFirst]) hs hf ?_
  exact wpAny_mono (wpAny_call (run_fnR F hr hx I (us := [.ref a, .ref b]) (vs := [.ref a, .ref b]) (.cons rfl (.cons rfl .nil)) hsp)) (fun _ _ z => back z) fun _ _ z => z
theorem op_bin {op : Operator} (hop : ∀ v u : Value, PySem.binaryOp op v u = PySem.binaryOp op v u) (F : FnR X.prog X.w X.K X.mg X.base CX k g sp) (hs : PySem.W.findIn X.K (.ref C) (PySem.dunder op.info.2) = some (some (.ref g))) (hf : PySem.W.isFn X.K (.ref g) = true)
    (hc : PySem.W.selfFirst X.K C = true) (hr : Room k X.A) (hx : Passes CX X E) : OpR X (PySem.binaryOp op) (rOwn C sp E) := by
  intro pins s σ H x y v u Q I rx ry h
  obtain ⟨a, b, dx, dy, fs, gs, rfl, rfl, ha, hb, hsp⟩ := h
  cases rx
  cases ry
  obtain ⟨mA, J, _⟩ := ins_get I.hok ha
  obtain ⟨mB, J', _⟩ := ins_get I.hok hb
  obtain ⟨od, J, _⟩ := J.look
  obtain ⟨od', J', _⟩ := J'.look
  obtain ⟨m, hF⟩ := I.fr
  refine PySem.W.binop_K (op := op) hF I.ok.mod.kin J J'.type hc hs hf ?_
  exact wpAny_mono (wpAny_call (run_fnR F hr hx I (us := [.ref a, .ref b]) (vs := [.ref a, .ref b]) (.cons rfl (.cons rfl .nil)) hsp)) (fun _ _ z => back z) fun _ _ z => z
/-- repr of an instance -/
def rRepr (C : Addr) (sp : Sp) (E : XK) : List V → Hp → VK → Prop := fun xs H Q => ∃ a dx fs, xs = [.ref a] ∧ H a = some (.ins C dx fs) ∧ sp [.ref a] H (fun v H' => ∃ y, v = .str y ∧ Q v H') E
theorem call_repr (F : FnR X.prog X.w X.K X.mg X.base CX k g sp) (hs : PySem.W.findIn X.K (.ref C) "__repr__" = some (some (.ref g))) (hf : PySem.W.isFn X.K (.ref g) = true)
    (hr : Room (k + 1) X.A) (hx : Passes CX X E) : CallR X (.builtin "repr") (rRepr C sp E) := by
  intro pins s σ H xs us Q I r h
  obtain ⟨a, dx, fs, rfl, ha, hsp⟩ := h
  obtain ⟨u, rfl, r1⟩ : ∃ u, us = [u] ∧ RelV (.ref a) u := by
    cases r with
    | cons r1 rr =>
      cases rr
      exact ⟨_, rfl, r1⟩
  cases r1
  obtain ⟨mA, J, _⟩ := ins_get I.hok ha
  obtain ⟨od, J, _⟩ := J.look
  obtain ⟨m, hF⟩ := I.fr
  refine PySem.W.repr_K ?_ hF I.ok.mod.kin J hs hf (wpAny_mono (run_at F ?_ ?_ hx I (us := [.ref a]) (vs := [.ref a]) (.cons rfl .nil) hsp) (fun u s' z => ?_) fun _ _ z => z)
  · have := hr.un
    show X.A.units + 1 < _
    omega
  · exact hr.in1
  · exact I.env0.frames
  · obtain ⟨v, H', I', rv, y, rfl, q⟩ := z
    obtain ⟨t, rfl⟩ := rv
    exact ⟨.str y, H', I', ⟨t, rfl⟩, q⟩
/-! ### != by the own == -/
theorem ifBound_B {M : Model} {A : Around} {Er : Value → Shared → Prop} {s : Shared} {K : PySem.W.Frag} {x C : Addr} {ox : Obj} {od : Option Obj} {name : Str} {id : String} {args : List Value} {Q : Option Value → Shared → Prop} (X : K.In s.heap) (I : PySem.W.InstAt s.heap x ox C od)
    (hs : PySem.W.findIn K (.ref C) name = some (some (.builtin id))) (hb : ∀ self, bindSpecial (.builtin id) self = pure (.builtin id, [self]))
    (h : wpAny M A (call (.builtin id) (.ref x :: args)) (fun v => Q (some v)) Er s) : wpAny M A (callSpecialIfBound? (.ref x) name args) Q Er s := by
  simp only [callSpecialIfBound?, bindSpecialIfBound?]
  refine wpAny_holding (wpAny_bind (wpAny_bind (wpAny_bind (I.type.here ((PySem.W.looks_findIn X hs).here ?_)))))
  refine wpAny_bind (wpAny_askSetting (wpAny_ite ?_))
  have fin : wpAny M A (call (.builtin id) ([.ref x] ++ args) >>= fun v => pure (some v)) Q Er s := wpAny_bind (wpAny_mono h (fun v s' h' => wpAny_pure h') fun _ _ h' => h')
  split
  · exact wpAny_bind ((PySem.W.Looks.of_pure (hb _)).here (wpAny_pure (by exact fin)))
  · exact wpAny_tryCatch (wpAny_bind ((PySem.W.Looks.of_pure (hb _)).here (wpAny_pure (by exact fin))))
def rOwnNe (C : Addr) (sp : Sp) (E : XK) : R2 := fun x y H Q => ∃ a b dx dy fs gs, x = .ref a ∧ y = .ref b ∧ H a = some (.ins C dx fs) ∧ H b = some (.ins C dy gs) ∧ sp [.ref a, .ref b] H (fun v H' => ∃ t, v = .bl t ∧ Q (.bl (!t)) H') E
theorem op_ne (F : FnR X.prog X.w X.K X.mg X.base CX k g sp) (hs : PySem.W.findIn X.K (.ref C) "__eq__" = some (some (.ref g))) (hn : PySem.W.findIn X.K (.ref C) "__ne__" = some (some (.builtin "object.__ne__"))) (hm : PySem.W.mroIn X.K C (.type "object") = some true)
    (hf : PySem.W.isFn X.K (.ref g) = true) (hr : Room (k + 1) X.A) (hx : Passes CX X E) : OpR X (compareOp .NotEq) (rOwnNe C sp E) := by
  intro pins s σ H x y v u Q I rx ry h
  obtain ⟨a, b, dx, dy, fs, gs, rfl, rfl, ha, hb, hsp⟩ := h
  cases rx
  cases ry
  obtain ⟨mA, J, _⟩ := ins_get I.hok ha
  obtain ⟨mB, J', _⟩ := ins_get I.hok hb
  obtain ⟨od, J, _⟩ := J.look
  obtain ⟨od', J', _⟩ := J'.look
  have KI := I.kIn
  have hu1 : X.A.in1.units < cLine := by
    have := hr.un
    show X.A.units + 1 < _
    omega
  have one : wpAny (model X.prog X.w) X.A (tryCompare (.ref a) (cmpInfo .NotEq).2.1 (.ref b)) (fun r s' => ∃ v, r = some v ∧ EP X pins σ Q v s') X.xe s := by
    unfold tryCompare
    refine wpAny_bind (ifBound_B KI J hn PySem.F.cmp_object.ne.bind (wpAny_call (codeAny_call_builtin PySem.F.cmp_object.ne.plain PySem.F.cmpEntry_ne
      (PySem.W.check_slot PySem.F.cmpKind_ne PySem.F.cmpSplit_ne (J.type.andThen (PySem.W.looks_mroIn KI hm)) (PySem.F.cmpArgs_ne _ _) ?_))))
    unfold Builtin.«object.__ne__»
    refine wpAny_bind (m := slotArgs "__ne__" 1 _) (wpAny_pure ?_)
    refine wpAny_bind (m := cRoomFor _ _) (wpAny_cRoomFor hu1 ?_)
    refine wpAny_bind (m := callSpecialIfBound? (.ref a) (Str.ofString "__eq__") _) (PySem.W.ifBound_K KI J hs hf (wpAny_mono (run_at F hr.in1 I.env0.frames hx I (us := [.ref a, .ref b]) (vs := [.ref a, .ref b]) (.cons rfl (.cons rfl .nil)) hsp) (fun u s' z => ?_) fun _ _ z => z))
    obtain ⟨v, H', I', rv, t, rfl, q⟩ := z
    cases rv
    refine wpAny_bind (m := truthy (.bool t)) (wpAny_truthy_bool ?_)
    first
      | exact wpAny_pure (wpAny_pure ⟨_, rfl, .bl (!t), H', I', rfl, q⟩)
      | exact wpAny_pure ⟨_, rfl, .bl (!t), H', I', rfl, q⟩
  show wpAny _ _ (richCompare .NotEq (.ref a) (.ref b)) _ _ _
  unfold richCompare
  simp only [PySem.oneThing_ref]
  refine wpAny_holding (wpAny_bind (wpAny_cRoomFor hr.units0 ?_))
  refine wpAny_bind (J.type.here (wpAny_bind (J'.type.here ?_)))
  rw [if_neg (by simp)]
  refine wpAny_bind (wpAny_pure ?_)
  simp only [Bool.false_eq_true, if_false]
  refine wpAny_bind (wpAny_mono one (fun r s' z => ?_) fun _ _ e => e)
  obtain ⟨v, rfl, hq⟩ := z
  exact wpAny_pure hq
end
/-! ### a def that returns NotImplemented -/
section
variable {P : Program} {w : World} {K : PySem.W.Frag} {mg : Str → Option Value} {base : Heap}
/-- on values of which pre holds the def at f returns NotImplemented and changes nothing -/
def NiOk (P : Program) (w : World) (K : PySem.W.Frag) (mg : Str → Option Value) (base : Heap) (k : Nat) (f : Addr) (pre : List V → Hp → Prop) : Prop :=
  ∀ (A : Around) (outer : List Env) (s : Shared) (H : Hp) (us : List Value) (vs : List V), Room k A → Env0 P w K mg base A outer s H → Vals vs us → pre vs H →
    codeAny (model P w) A (.call (.ref f) ⟨us, []⟩) (fun r s' => r = .ok (.ret .notImplemented) ∧ CE outer P w H s (fun _ H' => H' = H) .none s') s
theorem ni_def {x qual : Str} {st : Stmt} {f : Addr} {fd : FuncData} {N ps : List Str} {k : Nat} {pre : List V → Hp → Prop} {t : Expr} {els rest : List Stmt} {p2 p3 p4 : Pos} (F : Fun K x qual st f fd) (S : FnScope N ps (defScope st)) (hb : Binds K fd ps [])
    (len : ∀ vs H, pre vs H → vs.length = ps.length) (hbd : defBody st = .If t [.Return (some (.Name "NotImplemented" p2)) p3] els p4 :: rest) (hg : (defScope st).names.lookup ("NotImplemented" : Str) = some .globalImplicit) (hm : mg "NotImplemented" = none)
    (htest : ∀ (cdv : Value) (A : Around) (outer : List Env) (s : Shared) (H : Hp) (vs : List V), Room k (A.deeper (envOfC qual (defScope st) s.heap.objs.size f cdv)) → pre vs H →
      ∃ tt, PT (cxOf CX0 P w K mg base N qual (defScope st) f cdv A outer s H (fun _ _ _ => False)).nox t tt ∧ tt (start N vs) H (fun b H' => b = true ∧ H' = H)) :
    NiOk P w K mg base (k + 1) f pre := by
  intro A outer s H us vs hr e0 r hp
  have hl := len _ _ hp
  have hbind := hb s us (e0.mod.kin.keeps fun b o e => (e0.bs b o e).1) (by rw [List.append_nil, ← r.length]; exact hl)
  rw [List.append_nil] at hbind
  obtain ⟨oc, od, kV, doc, pm, an, cdv, ct, osl, rfl, lk, hcd⟩ := F.ex
  have KX : K.In s.heap := e0.mod.kin.keeps fun b o e => (e0.bs b o e).1
  have lim : s.heap.NoLimit := e0.mod.nolimit.keeps fun b o e => (e0.bs b o e).1
  have hkind : ∀ y ∈ ps.zip us, (defScope st).names.lookup y.1 = some .local ∨ ((defScope st).names.lookup y.1 = some .cell ∧ ((cellsFrom (s.heap.objs.size + 1) (defScope st).names []).lookup y.1).isSome = true) := fun ⟨n, v⟩ hy => by
    rcases S.par n (List.of_mem_zip hy).1 with q | q
    · exact .inl q
    · exact .inr ⟨q, PySem.W.cellsFrom_some _ _ _ (.inl q)⟩
  refine codeAny_call_function hr.depth (KX _ _ lk) rfl S.co S.gen rfl (PySem.W.codeRec_of KX hcd) (hbind _ _ _ _ ?_)
  refine wpAny_newFunctionEnv_cells S.kind hkind fun env he s1 x => ?_
  subst he
  refine ⟨lim.keeps x.toInCall.keep, codeAny_func ?_⟩
  obtain ⟨tt, ht, hq⟩ := htest cdv A outer s H vs (hr.deeper _) hp
  have I : L2.Inv (cxOf CX0 P w K mg base N qual (defScope st) f cdv A outer s H (fun _ _ _ => False)) [] (start N vs) H s1 := inv_start S hr.hd e0 hl r x
  rw [hbd]
  refine wpAny_execs_cons (wpAny_If (wpAny_mono (ht.run [] s1 (start N vs) H _ (I.wish _) hq) (fun b s2 h2 => ?_) fun e s' z => False.elim z))
  obtain ⟨H2, I2, rfl, rfl⟩ := h2
  refine wpAny_execs_cons (wpAny_Return_some (ld_blt I2 hg hm (u := .notImplemented) (by decide +kernel) ?_))
  exact ⟨rfl, .non, _, I2.os, I2.bare, I2.base, I2.hok, rfl, rfl⟩
end
section
variable {X : Cx} {CX : CXT} {k : Nat} {C g : Addr} {sp : Sp} {E : XK} {pre : List V → Hp → Prop}
theorem int_eq_ref (a : Int) (t : Tok) (b C dx : Addr) : Meets (Builtin.«int.__eq__» ⟨[.int a t, .ref b], []⟩) (fun _ R s => s.heap.get? b = some (PySem.W.instObj C dx) ∧ R (.ok (.ret Value.notImplemented)) s) :=
  .of_wp fun prog w A R s h => by
    obtain ⟨hp, g, d, tk, os⟩ := s
    obtain ⟨hl, h⟩ := h
    wp_walk using wpAny_load' hl
    exact ⟨_, rfl, h⟩
/-- an instance == a whole number, where the own == declines -/
def rEqI (C : Addr) (pre : List V → Hp → Prop) : R2 := fun x y H Q => ∃ a dx fs i, x = .ref a ∧ y = .int i ∧ H a = some (.ins C dx fs) ∧ pre [.ref a, .int i] H ∧ Q (.bl false) H
theorem op_eqI (N : NiOk X.prog X.w X.K X.mg X.base k g pre) (hs : PySem.W.findIn X.K (.ref C) "__eq__" = some (some (.ref g))) (hf : PySem.W.isFn X.K (.ref g) = true) (hsub : PySem.W.subIn X.K (.type "int") (.ref C) = some false)
    (hr : Room k X.A) : OpR X (compareOp .Eq) (rEqI C pre) := by
  intro pins s σ H x y v u Q I rx ry h
  obtain ⟨a, dx, fs, i, rfl, rfl, ha, hp, q⟩ := h
  cases rx
  obtain ⟨t, rfl⟩ := ry
  obtain ⟨mA, J, _⟩ := ins_get I.hok ha
  obtain ⟨od, J, _⟩ := J.look
  have KI := I.kIn
  show wpAny _ _ (richCompare .Eq (.ref a) (.int i t)) _ _ _
  unfold richCompare
  simp only [PySem.oneThing_ref]
  refine wpAny_holding (wpAny_bind (wpAny_cRoomFor hr.units0 ?_))
  refine wpAny_bind (J.type.here (wpAny_bind ((PySem.W.Looks.of_pure (M := model X.prog X.w) (h := s.heap) (show typeOf (.int i t) = pure (.type "int") from rfl)).here ?_)))
  have hne : (Value.ref C != Value.type "int") = true := by
    have z : (Value.ref C == Value.type "int") = false := Bool.eq_false_iff.mpr fun q => by cases beq_iff_eq.mp q
    show (!(Value.ref C == Value.type "int")) = true
    rw [z]; rfl
  rw [if_pos hne]
  refine wpAny_bind ((PySem.W.looks_subIn KI hsub).here ?_)
  simp only [Bool.false_eq_true, if_false]
  refine wpAny_bind (m := tryCompare (.ref a) _ (.int i t)) ?_
  unfold tryCompare
  have cl : wpAny (model X.prog X.w) X.A (call (.ref g) [.ref a, .int i t]) (fun u s' => u = .notImplemented ∧ L2.Inv X pins σ H s') X.xe s := by
    refine wpAny_call (codeAny_mono (N X.A X.stack s H [.ref a, .int i t] [.ref a, .int i] hr I.env0 (.cons rfl (.cons ⟨t, rfl⟩ .nil)) hp) fun r s' z => ?_)
    obtain ⟨rfl, z⟩ := z
    obtain ⟨v, H', I', rv, e⟩ := I.after z
    rw [e] at I'
    exact ⟨rfl, I'⟩
  refine wpAny_bind (PySem.W.ifBound_K KI J hs hf (wpAny_mono cl (fun u s' z => ?_) fun _ _ z => z))
  obtain ⟨rfl, I'⟩ := z
  refine wpAny_pure ?_
  obtain ⟨mA', J', _⟩ := ins_get I'.hok ha
  obtain ⟨od', J', _⟩ := J'.look
  dsimp only
  refine wpAny_bind (m := tryCompare (.int i t) _ (.ref a)) ?_
  refine wpAny_tryCompare_declines (typeIs_int _ i t) PySem.F.slot_int_eq (call_meets PySem.F.slot_int_eq (typeIs_int _ i t) PySem.F.entry_int_eq (PySem.F.args_int_eq_2 _ _) (int_eq_ref i t a C dx) ⟨J'.at_, rfl, ?_⟩)
  dsimp only
  refine wpAny_bind (wpAny_rule (wpAny_bind (wpAny_isSame_plain (by rfl) (wpAny_pure ?_))))
  have z : (Value.ref a == Value.int i t) = false := Bool.eq_false_iff.mpr fun q => by cases beq_iff_eq.mp q
  rw [z]
  exact ⟨.bl false, H, I', rfl, q⟩
end
/-! ### x(e, ..) and x(), x a local name that holds an instance -/
section
variable {X : Cx} {CX : CXT} {k i : Nat} {C g : Addr} {sp : Sp} {E : XK} {x : Str} {e : Expr} {es : List Expr} {t : TA} {p pos : Pos}
theorem run_ins {pins : List (Addr × Obj)} {σ : L2.St} {H : Hp} {s : Shared} {Q : VK} {a dx : Addr} {fs : List (Str × V)} {us : List Value} {vs : List V} (c : StX.CallO X.K C g) (F : FnR X.prog X.w X.K X.mg X.base CX k g sp) (hr : Room k X.A) (hx : Passes CX X E) (I : L2.Inv X pins σ H s)
    (ha : H a = some (.ins C dx fs)) (r : Vals vs us) (h : sp (V.ref a :: vs) H Q E) : wpAny (model X.prog X.w) X.A (call (.ref a) us) (EP X pins σ Q) X.xe s := by
  obtain ⟨mA, J, _⟩ := ins_get I.hok ha
  obtain ⟨od, J, _⟩ := J.look
  exact wpAny_call (PySem.W.kco_code I.kIn J rfl c.at_ c.fn c.fi (run_fnR (us := .ref a :: us) (vs := .ref a :: vs) F hr hx I (.cons rfl r) h))
def tCallI (i : Nat) (C : Addr) (sp : Sp) (E : XK) (t : TA) : TE := fun σ H Q => ∃ a, σ[i]? = some (some (.ref a)) ∧ t σ H fun vs H1 => (∃ dx fs, H1 a = some (.ins C dx fs)) ∧ sp (V.ref a :: vs) H1 Q E
theorem pe_callI (c : StX.CallO X.K C g) (F : FnR X.prog X.w X.K X.mg X.base CX k g sp) (hr : Room k X.A) (hx : Passes CX X E) (hN : X.N[i]? = some x) (hv : Vis X.env.scope x) (ha : PA X (e :: es) t)
    (hd : (x == ("__debug__" : Str)) = false := by decide) (hcd : (x == ("__classdict__" : Str)) = false := by decide)
    (he : starEach (e :: es) X.env = (false, eval e X.env) :: starEach es X.env := by rfl) (hpl : (backTo pos (starEach es X.env)).any (·.1) = false := by rfl) : PE X (.Call (.Name x p) (e :: es) [] pos) (tCallI i C sp E t) := by
  refine ⟨fun pins s σ H Q I h => ?_⟩
  obtain ⟨a, hs, h⟩ := h
  refine wpAny_Call_Name_kw (thn ((pe_var (pos := p) (i := i) hN hv hd hcd).run pins s σ H (fun v H1 => v = .ref a ∧ H1 = H) I ⟨.ref a, hs, rfl, rfl⟩) fun u s1 ⟨v, H1, I1, r1, ev, eH⟩ => ?_)
  subst ev
  rw [eH] at I1
  cases r1
  refine StX.callO_with (thn (ha.run pos pins s1 σ H _ I1 h) fun us s2 ⟨vs, H2, I2, r, ⟨dx, fs, hi⟩, q2⟩ => ?_) he hpl
  obtain ⟨mA, J, _⟩ := ins_get I2.hok hi
  obtain ⟨od, J, _⟩ := J.look
  exact ⟨⟨C, _, _, J, rfl⟩, run_ins c F hr hx I2 hi r q2⟩
theorem pe_callI0 (c : StX.CallO X.K C g) (F : FnR X.prog X.w X.K X.mg X.base CX k g sp) (hr : Room k X.A) (hx : Passes CX X E) (hN : X.N[i]? = some x) (hv : Vis X.env.scope x)
    (hd : (x == ("__debug__" : Str)) = false := by decide) (hcd : (x == ("__classdict__" : Str)) = false := by decide) : PE X (.Call (.Name x p) [] [] pos) (tCallI i C sp E tNil) := by
  refine ⟨fun pins s σ H Q I h => ?_⟩
  obtain ⟨a, hs, ⟨dx, fs, hi⟩, h⟩ := h
  refine wpAny_Call_Name_kw (thn ((pe_var (pos := p) (i := i) hN hv hd hcd).run pins s σ H (fun v H1 => v = .ref a ∧ H1 = H) I ⟨.ref a, hs, rfl, rfl⟩) fun u s1 ⟨v, H1, I1, r1, ev, eH⟩ => ?_)
  subst ev
  rw [eH] at I1
  cases r1
  obtain ⟨mA, J, _⟩ := ins_get I1.hok hi
  obtain ⟨od, J, _⟩ := J.look
  exact PySem.W.kco_callWith0 (K := X.K) I1.kIn J rfl c.at_ (run_ins (us := []) c F hr hx I1 hi .nil h)
end
end Own

namespace Own
open PySem PySem.Spec PyProof.Rows L2
/-- a promise told of the values as they come -/
theorem fnr_of {P : Program} {w : World} {K : PySem.W.Frag} {mg : Str → Option Value} {base : Heap} {CX : CXT} {k : Nat} {f : Addr} {fd : FuncData} {ps : List Str} {sp : Sp} {dvs : List V} {ds : List Value} (G : FnOk P w K mg base CX k f fd ps sp) (hb : Binds K fd ps ds) (hd : Vals dvs ds) :
    FnR P w K mg base CX k f (fun vs H Q E => sp (vs ++ dvs) H Q E) := fun A outer s H us vs Q E hr e0 r h => by
  have KX : K.In s.heap := e0.mod.kin.keeps fun b o e => (e0.bs b o e).1
  have hl : (us ++ ds).length = ps.length := by
    have e := (r.append hd).length
    rw [G.len _ _ _ _ h] at e
    exact e.symm
  exact G.run A outer s H ⟨us, []⟩ (us ++ ds) (vs ++ dvs) Q E hr e0 (hb s us KX hl) (r.append hd) h
theorem fnr0 {P : Program} {w : World} {K : PySem.W.Frag} {mg : Str → Option Value} {base : Heap} {CX : CXT} {k : Nat} {f : Addr} {fd : FuncData} {ps : List Str} {sp : Sp} (G : FnOk P w K mg base CX k f fd ps sp) (hb : Binds K fd ps []) :
    FnR P w K mg base CX k f sp := (fnr_of G hb .nil).imp fun vs H Q E h => by rw [List.append_nil]; exact h
section
variable {X : Cx} {CX : CXT} {k i : Nat} {C g f : Addr} {sp : Sp} {E : L2.St → XK} {x : Str} {e a b : Expr} {es : List Expr} {t : TA} {ta tb : TE} {p pos : Pos} {fd : FuncData} {ps : List Str} {dvs : List V} {ds : List Value}
theorem run_fnRS {pins : List (Addr × Obj)} {σ : L2.St} {H : Hp} {s : Shared} {Q : VK} {us : List Value} {vs : List V} (F : FnR X.prog X.w X.K X.mg X.base CX k g sp) (hr : Room k X.A) (hx : PassesAt CX X σ (E σ)) (I : L2.Inv X pins σ H s) (r : Vals vs us) (h : sp vs H Q (E σ)) :
    codeAny (model X.prog X.w) X.A (.call (.ref g) ⟨us, []⟩) (fun r s' => match r with | .ok (.ret v) => EP X pins σ Q v s' | .ok _ => False | .error e => X.xe e s') s := by
  refine codeAny_mono (F X.A X.stack s H us vs Q (E σ) hr I.env0 r h) fun r s' hq => ?_
  cases r with
  | error e => exact hx pins H s e s' I hq
  | ok fl =>
    cases fl with
    | ret u => exact I.after hq
    | next => exact False.elim hq
    | brk => exact False.elim hq
    | cont => exact False.elim hq
/-- a + b of two instances of one own class -/
theorem pe_binS {op : Operator} (F : FnR X.prog X.w X.K X.mg X.base CX k g sp) (hs : PySem.W.findIn X.K (.ref C) (PySem.dunder op.info.2) = some (some (.ref g))) (hf : PySem.W.isFn X.K (.ref g) = true) (hc : PySem.W.selfFirst X.K C = true) (hr : Room k X.A)
    (hx : ∀ σ, PassesAt CX X σ (E σ)) (ha : PE X a ta) (hb : PE X b tb) : PE X (.BinOp a op b pos) (fun σ H Q => ta σ H fun x H1 => tb σ H1 fun y H2 => rOwn C sp (E σ) x y H2 Q) := by
  refine ⟨fun pins s σ H Q I h => ?_⟩
  have h' : tOp (fun x y H2 Q => rOwn C sp (E σ) x y H2 Q) ta tb σ H Q := h
  refine wpAny_BinOp (binT ha hb I h' fun v u s2 x y H2 I2 rx ry q => ?_)
  obtain ⟨a, b, dx, dy, fs, gs, rfl, rfl, ha, hb, hsp⟩ := q
  cases rx
  cases ry
  obtain ⟨mA, J, _⟩ := ins_get I2.hok ha
  obtain ⟨mB, J', _⟩ := ins_get I2.hok hb
  obtain ⟨od, J, _⟩ := J.look
  obtain ⟨od', J', _⟩ := J'.look
  obtain ⟨m, hF⟩ := I2.fr
  refine PySem.W.binop_K (op := op) hF I2.ok.mod.kin J J'.type hc hs hf ?_
  exact wpAny_mono (wpAny_call (run_fnRS F hr (hx σ) I2 (us := [.ref a, .ref b]) (vs := [.ref a, .ref b]) (.cons rfl (.cons rfl .nil)) hsp)) (fun _ _ z => back z) fun _ _ z => z
/-- C(e, ..) whose __init__ may raise -/
structure MkS (C : Addr) (sp : Sp) (E : XK) (vs : List V) (H1 : Hp) (Q : VK) : Prop where
  run : ∀ x dx, H1 x = Option.none → H1 dx = Option.none → dx ≠ x → sp (V.ref x :: vs) (upd (upd H1 dx (.own x)) x (.ins C dx [])) (fun v H2 => v = .non ∧ Q (.ref x) H2) E
def tMakeS (C : Addr) (sp : Sp) (E : L2.St → XK) (t : TA) : TE := fun σ H Q => t σ H fun vs H1 => MkS C sp (E σ) vs H1 Q
theorem pe_makeS (M : Mk X.K C f) (F : FnR X.prog X.w X.K X.mg X.base CX k f sp) (hr : Room (k + 1) X.A) (hg : Gl X x) (hm : X.mg x = some (.ref C)) (hx : ∀ σ, PassesAt CX X σ (E σ)) (ha : PA X (e :: es) t) (hdb : (x == ("__debug__" : Str)) = false := by decide)
    (he : starEach (e :: es) X.env = (false, eval e X.env) :: starEach es X.env := by rfl) (hpl : (backTo pos (starEach es X.env)).any (·.1) = false := by rfl) : PE X (.Call (.Name x p) (e :: es) [] pos) (tMakeS C sp E t) := by
  refine ⟨fun pins s σ H Q I h => ?_⟩
  refine wpAny_Call_Name_kw (ld_glob I hg hm ?_ hdb)
  refine PySem.W.callWith_K (h₀ := X.base) I.ok.mod.kin M.kp (thn (ha.run pos pins s σ H _ I h) fun us s1 ⟨vs, H1, I1, r, q⟩ => ⟨I1.kIn, ?_⟩) he hpl
  have hq := q.run (s1.heap.objs.size + 1) s1.heap.objs.size (I1.hok.fresh (Nat.le_succ _)) (I1.hok.fresh (Nat.le_refl _)) (Nat.ne_of_lt (Nat.lt_succ_self _))
  have I2 := Inv.made (C := C) I1
  have r2 : Vals (V.ref (s1.heap.objs.size + 1) :: vs) (Value.ref (s1.heap.objs.size + 1) :: us) := .cons rfl r
  refine wpAny_call (make_map (f := f) I1.kIn M.makes M.init (beq_iff_eq.mp M.fn) (codeAny_mono (F _ X.stack _ _ (Value.ref (s1.heap.objs.size + 1) :: us) _ _ (E σ) (hr.make C us []) (I2.env0.make C us []) r2 hq) fun r s' hq' => ?_))
  cases r with
  | error e => exact hx σ pins _ _ e s' I2 hq'
  | ok fl =>
    cases fl with
    | ret u =>
      obtain ⟨v, H', I3, rv, ev, q3⟩ := I2.after hq'
      subst ev
      exact ⟨rv, ⟨V.ref (s1.heap.objs.size + 1), H', I3, rfl, q3⟩⟩
    | next => exact False.elim hq'
    | brk => exact False.elim hq'
    | cont => exact False.elim hq'
def tCallIS (i : Nat) (C : Addr) (sp : Sp) (E : L2.St → XK) (t : TA) : TE := fun σ H Q => ∃ a, σ[i]? = some (some (.ref a)) ∧ t σ H fun vs H1 => (∃ dx fs, H1 a = some (.ins C dx fs)) ∧ sp (V.ref a :: vs) H1 Q (E σ)
theorem run_insS {pins : List (Addr × Obj)} {σ : L2.St} {H : Hp} {s : Shared} {Q : VK} {a dx : Addr} {fs : List (Str × V)} {us : List Value} {vs : List V} (c : StX.CallO X.K C g) (F : FnR X.prog X.w X.K X.mg X.base CX k g sp) (hr : Room k X.A) (hx : PassesAt CX X σ (E σ)) (I : L2.Inv X pins σ H s)
    (ha : H a = some (.ins C dx fs)) (r : Vals vs us) (h : sp (V.ref a :: vs) H Q (E σ)) : wpAny (model X.prog X.w) X.A (call (.ref a) us) (EP X pins σ Q) X.xe s := by
  obtain ⟨mA, J, _⟩ := ins_get I.hok ha
  obtain ⟨od, J, _⟩ := J.look
  exact wpAny_call (PySem.W.kco_code I.kIn J rfl c.at_ c.fn c.fi (run_fnRS (us := .ref a :: us) (vs := .ref a :: vs) F hr hx I (.cons rfl r) h))
theorem pe_callIS (c : StX.CallO X.K C g) (F : FnR X.prog X.w X.K X.mg X.base CX k g sp) (hr : Room k X.A) (hx : ∀ σ, PassesAt CX X σ (E σ)) (hN : X.N[i]? = some x) (hv : Vis X.env.scope x) (ha : PA X (e :: es) t)
    (hd : (x == ("__debug__" : Str)) = false := by decide) (hcd : (x == ("__classdict__" : Str)) = false := by decide)
    (he : starEach (e :: es) X.env = (false, eval e X.env) :: starEach es X.env := by rfl) (hpl : (backTo pos (starEach es X.env)).any (·.1) = false := by rfl) : PE X (.Call (.Name x p) (e :: es) [] pos) (tCallIS i C sp E t) := by
  refine ⟨fun pins s σ H Q I h => ?_⟩
  obtain ⟨a, hs, h⟩ := h
  refine wpAny_Call_Name_kw (thn ((pe_var (pos := p) (i := i) hN hv hd hcd).run pins s σ H (fun v H1 => v = .ref a ∧ H1 = H) I ⟨.ref a, hs, rfl, rfl⟩) fun u s1 ⟨v, H1, I1, r1, ev, eH⟩ => ?_)
  subst ev
  rw [eH] at I1
  cases r1
  refine StX.callO_with (thn (ha.run pos pins s1 σ H _ I1 h) fun us s2 ⟨vs, H2, I2, r, ⟨dx, fs, hi⟩, q2⟩ => ?_) he hpl
  obtain ⟨mA, J, _⟩ := ins_get I2.hok hi
  obtain ⟨od, J, _⟩ := J.look
  exact ⟨⟨C, _, _, J, rfl⟩, run_insS c F hr (hx σ) I2 hi r q2⟩
theorem pe_callIS0 (c : StX.CallO X.K C g) (F : FnR X.prog X.w X.K X.mg X.base CX k g sp) (hr : Room k X.A) (hx : ∀ σ, PassesAt CX X σ (E σ)) (hN : X.N[i]? = some x) (hv : Vis X.env.scope x)
    (hd : (x == ("__debug__" : Str)) = false := by decide) (hcd : (x == ("__classdict__" : Str)) = false := by decide) : PE X (.Call (.Name x p) [] [] pos) (tCallIS i C sp E tNil) := by
  refine ⟨fun pins s σ H Q I h => ?_⟩
  obtain ⟨a, hs, ⟨dx, fs, hi⟩, h⟩ := h
  refine wpAny_Call_Name_kw (thn ((pe_var (pos := p) (i := i) hN hv hd hcd).run pins s σ H (fun v H1 => v = .ref a ∧ H1 = H) I ⟨.ref a, hs, rfl, rfl⟩) fun u s1 ⟨v, H1, I1, r1, ev, eH⟩ => ?_)
  subst ev
  rw [eH] at I1
  cases r1
  obtain ⟨mA, J, _⟩ := ins_get I1.hok hi
  obtain ⟨od, J, _⟩ := J.look
  exact PySem.W.kco_callWith0 (K := X.K) I1.kIn J rfl c.at_ (run_insS (us := []) c F hr (hx σ) I1 hi .nil h)
end
end Own

/-! Several except clauses, each with a name for the error. -/
namespace TryAs
open PySem PySem.Spec PyProof.Rows L2
abbrev Su := Addr → Value → Option Addr → TS
/-- the ends of a suite whose name in slot i goes behind it -/
def endsOf (i : Nat) (D : Ends) : Ends := { nx := fun σ' H' => D.nx (σ'.set i none) H', rt := D.rt, bk := fun σ' H' => D.bk (σ'.set i none) H', ct := fun σ' H' => D.ct (σ'.set i none) H' }
/-- what the clauses wish of an error, from the first on: class, slot of the name, suite -/
def wAsM (K : PySem.W.Frag) (Wout : WX) (D : Ends) : List (Value × Nat × Su) → WX
  | [] => Wout
  | (c, i, ts) :: r => fun cls d σ H => ∃ b, PySem.W.exmOne K cls c = some b ∧ (b = true → ∀ a, H a = none → ts a cls d (endsOf i D) (σ.set i (some (.ref a))) H) ∧ (b = false → wAsM K Wout D r cls d σ H)
inductive Hds (X : Cx) : List ExceptHandler → List (Value × Nat × Su) → Prop
  | nil : Hds X [] []
  | cons {x n : Str} {c : Value} {i : Nat} {ts : Su} {b₀ : Stmt} {suite : List Stmt} {np pos' : Pos} {hds : List ExceptHandler} {l : List (Value × Nat × Su)} (hi : X.N[i]? = some n) (hln : X.env.kindOf n = some .local) (hc : Names X x c)
      (hsu : ∀ (a : Addr) (oe : Obj) (cls : Value) (d : Option Addr) (pn : List (Addr × Obj)), Zc cls d oe → (∃ vs, oe.data = .fields vs) → PSs (X.suite a ((a, oe) :: pn)) (b₀ :: suite) (ts a cls d)) (r : Hds X hds l) :
      Hds X (.ExceptHandler (some (.Name x np)) (some n) (b₀ :: suite) pos' :: hds) ((c, i, ts) :: l)
section
variable {X : Cx} {body : List Stmt} {h₀ : ExceptHandler} {hds : List ExceptHandler} {l : List (Value × Nat × Su)} {pos : Pos} {tb : WX → TS} {Wout : WX}
theorem ps_try_asM (hs : X.stack = X.env :: X.outer) (hf : X.env.frame = some X.env.locals) (hN : X.N.Nodup) (tk : Takes X Wout)
    (hb : ∀ (W : WX) (pn : List (Addr × Obj)) (xe : Value → Shared → Prop), Takes (X.tr pn xe) W → PassesOwn (model X.prog X.w) X.A X.env xe → PSs (X.tr pn xe) body (tb W))
    (hh : Hds X (h₀ :: hds) l) : PS X (.Try body (h₀ :: hds) [] [] pos) (fun D σ H => tb (wAsM X.K Wout D l) D σ H) := by
  refine ⟨fun pins s σ H D I h => wpAny_Try_except ?_⟩
  have ok := I.ok
  have hfr : X.A.frames = some (X.env :: X.outer) := by rw [ok.frames, hs]
  refine wpAny_mono ((hb (wAsM X.K Wout D l) (X.pn ++ pins) (fun e s₁ => wpAny (model X.prog X.w) X.A (noteFrame e X.env) (fun _ s₂ => wpAny (model X.prog X.w) X.A (setFlight e none) (fun _ s₃ =>
    wpAny (model X.prog X.w) X.A (handleBy e X.env (h₀ :: hds)) (SP X pins D) X.xe s₃) X.xe s₂) X.xe s₁) (fun u s' xx => ?_) PassesOwn.looking).run [] s σ H D (I.toTry _) h) (fun f s1 hsp => ?_) (fun e s1 he => he)
  · obtain ⟨a, B, sI, pins', σ', H', cls, d, rfl, J', nb, up, sky, na, os, ag, w⟩ := xx
    have J : Inv X pins σ' H' sI := J'.ofTry ok
    show wpAny (model X.prog X.w) X.A (noteFrame (.ref a) X.env) _ _ _
    refine Sky.land Zc.steady hfr hf (show Sky B (X.env :: X.outer) a (Zc cls d) X.env.locals s'.heap by rw [← hs]; exact sky) fun h3 fl3 up3 => ?_
    have J3 : Inv X pins σ' H' { s' with heap := h3 } := J.landed nb fl3.1 (up.trans up3) os ag
    obtain ⟨oe3, vs3, he3, hz3, hd3⟩ := fl3.there
    have nfr : a ∉ frs (X.env :: X.outer) := fun hm => by
      obtain ⟨_, o', e', hnf⟩ := fl3.2.2.1.mem hm
      rw [he3] at e'
      cases e'
      exact hnf _ hd3
    have nL : a ≠ X.env.locals := fun z => nfr (List.mem_filterMap.mpr ⟨X.env, List.mem_cons_self, by rw [hf, z]⟩)
    have nF : a ∉ X.fs := fun hm => by
      obtain ⟨e, he, q⟩ := List.mem_filterMap.mp hm
      exact nfr (List.mem_filterMap.mpr ⟨e, List.mem_cons_of_mem _ he, q⟩)
    have S3 := J3.suite he3 hd3 na nL nF
    have go : ∀ {hds' : List ExceptHandler} {l' : List (Value × Nat × Su)}, Hds X hds' l' → wAsM X.K Wout D l' cls d σ' H' →
        wpAny (model X.prog X.w) X.A (handleBy (.ref a) X.env hds') (SP X pins D) X.xe { s' with heap := h3 } := fun {hds' l'} hk => by
      induction hk with
      | nil =>
        intro w
        refine wpAny_handleBy_nil ?_
        obtain ⟨k1, k2, k3, oe, vs, T, oT, ts', he, hz, hd, h1, hr⟩ := id fl3
        unfold PySem.passOn
        refine wpAny_bind (wpAny_field he hd h1 ?_)
        rw [if_neg (show ¬ ((Value.ref T == Value.none) = true) from by simp)]
        have fin : wpAny (model X.prog X.w) X.A (setFlight (.ref a) X.env.frame) (fun _ s4 => wpAny (model X.prog X.w) X.A (throw (.ref a) : Sem Flow) (SP X pins D) X.xe s4) X.xe { s' with heap := h3 } := by
          rw [hf]
          exact HandSPX.setFlight_upZ fl3 fun h4 hh4 up4 => wpAny_throw (tk _ _ ⟨a, B, sI, pins, σ', H', cls, d, rfl, J, nb, (up.trans up3).trans up4, .inr (.inr (by rw [hs]; exact hh4)), na, os, ag, w⟩)
        first
          | exact wpAny_bind (wpAny_pure (wpAny_bind fin))
          | exact wpAny_bind fin
      | @cons x n c i ts b₀ suite np pos' hds2 l2 hi hln hc hsu r ih =>
        intro w
        obtain ⟨b, hb1, hyes, hno⟩ := w
        refine wpAny_handleBy_cons (codeAny_handlers_test ?_) (by intro q; cases q)
        have LT : PySem.W.Looks (model X.prog X.w) h3 (typeOf (.ref a)) cls := fun A Q E s k q => wpAny_typeOf_ref (k _ _ he3) (by rw [hz3.1]; exact q)
        have LM := PySem.W.exm_one (M := model X.prog X.w) (J3.kIn) LT hb1
        have test : ∀ {Q : Value → Shared → Prop} {E : Value → Shared → Prop}, Q c { s' with heap := h3 } → wpAny (model X.prog X.w) (X.A.mark (some (.ref a))) (eval (.Name x np) X.env) Q E { s' with heap := h3 } := fun {Q E} q => by
          obtain ⟨hg, hdbg, hm | ⟨hm, hv, hnn⟩⟩ := hc
          · exact ld_glob (X := X.suite a ((a, oe3) :: (X.pn ++ pins))) S3 hg hm q hdbg
          · exact ld_blt (X := X.suite a ((a, oe3) :: (X.pn ++ pins))) S3 hg hm hv q hnn hdbg
        refine test (LM.here ?_)
        cases b with
        | false => exact ih (hno rfl)
        | true =>
          refine codeAny_handlers_suite_as (HandSPX.lands_againZ fl3 fun h4 fl4 up4 => ?_)
          have J4 : Inv X pins σ' H' { s' with heap := h4 } := J.landed nb fl4.1 ((up.trans up3).trans up4) os ag
          obtain ⟨oe4, vs4, he4, hz4, hd4⟩ := fl4.there
          refine store_ok (X := X.suite a ((a, oe4) :: (X.pn ++ pins))) (v := .ref a) (J4.suite he4 hd4 na nL nF) hN hi (.inl hln) rfl (fun s5 S5 => ?_) (.inr hln)
          refine wpAny_mono ((hsu a oe4 cls d (X.pn ++ pins) hz4 ⟨_, hd4⟩).run [] s5 _ H' _ S5 (hyes rfl a na)) (fun f s6 hsp => ?_) (fun _ _ z => False.elim z)
          cases f with
          | next =>
            obtain ⟨σ6, H6, S6, q6⟩ := hsp
            exact gone_ok (S6.unsuite ok) hN hi hln fun s7 J7 => ⟨_, _, J7, q6⟩
          | brk =>
            obtain ⟨σ6, H6, S6, q6⟩ := hsp
            exact gone_ok (S6.unsuite ok) hN hi hln fun s7 J7 => ⟨_, _, J7, q6⟩
          | cont =>
            obtain ⟨σ6, H6, S6, q6⟩ := hsp
            exact gone_ok (S6.unsuite ok) hN hi hln fun s7 J7 => ⟨_, _, J7, q6⟩
          | ret u =>
            obtain ⟨v6, σ6, H6, S6, r6, q6⟩ := hsp
            exact gone_ok (S6.unsuite ok) hN hi hln fun s7 J7 => ⟨_, _, _, J7, r6, q6⟩
    exact go hh w
  · cases f with
    | next =>
      obtain ⟨σ', H', J', q⟩ := hsp
      exact wpAny_execs_nil ⟨σ', H', J'.ofTry ok, q⟩
    | brk =>
      obtain ⟨σ', H', J', q⟩ := hsp
      exact ⟨σ', H', J'.ofTry ok, q⟩
    | cont =>
      obtain ⟨σ', H', J', q⟩ := hsp
      exact ⟨σ', H', J'.ofTry ok, q⟩
    | ret u =>
      obtain ⟨v, σ', H', J', r, q⟩ := hsp
      exact ⟨v, σ', H', J'.ofTry ok, r, q⟩
end
end TryAs

/-! len and in of instances by their own defs; methods that raise, in a try. -/
namespace Own
open PySem PySem.Spec PyProof.Rows L2
section
variable {X : Cx} {CX : CXT} {k : Nat} {C g : Addr} {sp : Sp} {E : XK}
def rLenO (C : Addr) (sp : Sp) (E : XK) : List V → Hp → VK → Prop := fun xs H Q => ∃ a dx fs, xs = [.ref a] ∧ H a = some (.ins C dx fs) ∧ sp [.ref a] H (fun v H' => ∃ n : Nat, v = .int n ∧ n < 2 ^ 62 ∧ Q v H') E
theorem call_lenO (F : FnR X.prog X.w X.K X.mg X.base CX k g sp) (hs : PySem.W.findIn X.K (.ref C) "__len__" = some (some (.ref g))) (hf : PySem.W.isFn X.K (.ref g) = true)
    (hr : Room (k + 1) X.A) (hx : Passes CX X E) : CallR X (.builtin "len") (rLenO C sp E) := by
  intro pins s σ H xs us Q I r h
  obtain ⟨a, dx, fs, rfl, ha, hsp⟩ := h
  obtain ⟨u, rfl, r1⟩ : ∃ u, us = [u] ∧ RelV (.ref a) u := by
    cases r with
    | cons r1 rr =>
      cases rr
      exact ⟨_, rfl, r1⟩
  cases r1
  obtain ⟨mA, J, _⟩ := ins_get I.hok ha
  obtain ⟨od, J, _⟩ := J.look
  obtain ⟨m, hF⟩ := I.fr
  refine PySem.W.len_K hF I.ok.mod.kin J hs hf (wpAny_mono (run_at F hr.in1 I.env0.frames hx I (us := [.ref a]) (vs := [.ref a]) (.cons rfl .nil) hsp) (fun u s' z => ?_) fun _ _ z => z)
  obtain ⟨v, H', I', rv, n, rfl, hn, q⟩ := z
  obtain ⟨t, rfl⟩ := rv
  exact ⟨⟨by omega, by omega⟩, .int n, H', I'.tok _, ⟨_, rfl⟩, q⟩
/-- x in o, o an instance -/
def rInO (C : Addr) (sp : Sp) (E : XK) : R2 := fun x y H Q => ∃ a dx fs, y = .ref a ∧ H a = some (.ins C dx fs) ∧ sp [.ref a, x] H (fun v H' => ∃ t, v = .bl t ∧ Q v H') E
theorem op_inO (F : FnR X.prog X.w X.K X.mg X.base CX k g sp) (hs : PySem.W.findIn X.K (.ref C) "__contains__" = some (some (.ref g))) (hf : PySem.W.isFn X.K (.ref g) = true)
    (hr : Room k X.A) (hx : Passes CX X E) : OpR X (compareOp .In) (rInO C sp E) := by
  intro pins s σ H x y v u Q I rx ry h
  obtain ⟨a, dx, fs, rfl, ha, hsp⟩ := h
  cases ry
  obtain ⟨mA, J, _⟩ := ins_get I.hok ha
  obtain ⟨od, J, _⟩ := J.look
  obtain ⟨m, hF⟩ := I.fr
  refine PySem.W.in_K hF I.ok.mod.kin J hs hf ?_
  refine wpAny_mono (run_at F hr I.env0.frames hx I (us := [.ref a, v]) (vs := [.ref a, x]) (.cons rfl (.cons rx .nil)) hsp) (fun u s' z => ?_) fun _ _ z => z
  obtain ⟨w, H', I', rv, t, rfl, q⟩ := z
  cases rv
  exact wpAny_truthy_bool ⟨.bl t, H', I', rfl, q⟩
end
section
variable {X : Cx} {CX : CXT} {k : Nat} {C f : Addr} {sp : Sp} {E : L2.St → XK} {m : Str} {o e : Expr} {es : List Expr} {t : TA} {ta : TE} {p pos apos : Pos}
/-- o.m(e, ..) that may raise, at the slots σ -/
def tMethS (C : Addr) (m : Str) (sp : Sp) (E : L2.St → XK) (ta : TE) (t : TA) : TE := fun σ H Q => ta σ H fun x H1 => ∃ a dx fs, x = .ref a ∧ H1 a = some (.ins C dx fs) ∧ fs.lookup m = none ∧ t σ H1 fun vs H2 => sp (x :: vs) H2 Q (E σ)
theorem pe_methW {pl : Sem Bool} (he : PE X o ta) (c : Cls X.K C) (hm : Meth X.K C m f) (F : FnR X.prog X.w X.K X.mg X.base CX k f sp) (hr : Room k X.A) (hx : ∀ σ, PassesAt CX X σ (E σ)) (ha : PA X (e :: es) t)
    (hst : starEach (e :: es) X.env = (false, eval e X.env) :: starEach es X.env := by rfl) (hpl : (backTo pos (starEach es X.env)).any (·.1) = false := by rfl)
    (ht : eval (.Call (.Attribute o m apos) (e :: es) [] pos) X.env = (do
      let ov ← eval o X.env
      standAt apos.atName
      let (f, first) ← holding [ov] (getMethod ov m pl)
      callWith pos f first (backTo pos (starEach (e :: es) X.env)) (backToKw pos (keywordEach [] X.env))) := by rfl) :
    PE X (.Call (.Attribute o m apos) (e :: es) [] pos) (tMethS C m sp E ta t) := by
  refine ⟨fun pins s σ H Q I h => ?_⟩
  refine PySem.W.methodCall_KW (pl := pl) (thn (he.run pins s σ H _ I h) fun u s1 ⟨x, H1, I1, rx, a, dx, fs, ex, ea, l, q⟩ => ?_) ht
  subst ex
  obtain rfl : u = Value.ref a := rx
  refine getmeth_ok I1 ea c hm l ?_
  refine PySem.W.callWith_K (first := [.ref a]) (h₀ := X.base) I.ok.mod.kin hm.kp (thn (ha.run pos pins s1 σ H1 _ I1 q) fun us s2 ⟨vs, H2, I2, r, q2⟩ => ⟨I2.kIn, ?_⟩) hst hpl
  exact wpAny_call (run_fnRS (us := .ref a :: us) (vs := .ref a :: vs) F hr (hx σ) I2 (.cons rfl r) q2)
end
end Own

namespace Rt
open PySem PySem.Float64
theorem amgm (a b : Nat) : 4 * (a * b) ≤ (a + b) * (a + b) := by
  rcases Nat.le_total a b with c | c
  · obtain ⟨d, rfl⟩ := Nat.exists_eq_add_of_le c
    have e : (a + (a + d)) * (a + (a + d)) = 4 * (a * (a + d)) + d * d := by grind
    omega
  · obtain ⟨d, rfl⟩ := Nat.exists_eq_add_of_le c
    have e : (b + d + b) * (b + d + b) = 4 * ((b + d) * b) + d * d := by grind
    omega
theorem newton_hi (x q y n : Nat) (h1 : n < x * (q + 1)) (h2 : x + q + 1 ≤ 2 * (y + 1)) : n < (y + 1) * (y + 1) := by
  have a : (x + (q + 1)) * (x + (q + 1)) ≤ (2 * (y + 1)) * (2 * (y + 1)) := Nat.mul_le_mul (by omega) (by omega)
  have b := amgm x (q + 1)
  have e : (2 * (y + 1)) * (2 * (y + 1)) = 4 * ((y + 1) * (y + 1)) := by grind
  omega
theorem newton_lo (x q z n t h : Nat) (hx : x = t + h) (ht : t * t ≤ n) (hxn : n < x * x) (hq : x * q ≤ n) (hz : 2 * z + 2 ≤ x + q) (hh : (h * h) * (h * h) ≤ 2 * n) : z * z ≤ n := by
  refine Nat.le_of_not_lt fun c => ?_
  have zt : t < z := by
    refine Nat.lt_of_not_le fun w => ?_
    have := Nat.mul_le_mul w w
    omega
  rcases Nat.lt_or_ge x z with w | w
  · have : x < q := by omega
    have := Nat.mul_le_mul (Nat.le_refl x) (Nat.le_of_lt this)
    omega
  · obtain ⟨d, e⟩ := Nat.exists_eq_add_of_le w
    have dh : d < h := by omega
    have dd : d * d < h * h := Nat.mul_lt_mul'' dh dh
    have k : 2 * x < d * d := by
      obtain ⟨g, eg⟩ : ∃ g, q + d = z + 2 + g := ⟨q + d - (z + 2), by omega⟩
      have e1 : x * (q + d) = x * (z + 2 + g) := by rw [eg]
      have e2 : x * (q + d) = x * q + x * d := Nat.mul_add ..
      have e3 : x * (z + 2 + g) = x * z + 2 * x + x * g := by grind
      have e4 : x * z = z * z + z * d := by rw [e]; grind
      have e5 : x * d = z * d + d * d := by rw [e]; grind
      have e6 : 0 ≤ x * g := Nat.zero_le _
      omega
    have k2 : 2 * x < h * h := by omega
    have k3 : (2 * x) * (2 * x) < (h * h) * (h * h) := Nat.mul_lt_mul'' k2 k2
    have e7 : (2 * x) * (2 * x) = 4 * (x * x) := by grind
    omega
theorem root_small : ∀ n : Nat, n < 8 → rootBelow8 n * rootBelow8 n ≤ n ∧ n < (rootBelow8 n + 1) * (rootBelow8 n + 1) := by decide
theorem root_ok : ∀ (L n : Nat), n.log2 ≤ L → rootByHalves L n * rootByHalves L n ≤ n ∧ n < (rootByHalves L n + 1) * (rootByHalves L n + 1) := by
  intro L
  induction L with
  | zero =>
    intro n h
    refine root_small n ?_
    by_cases h0 : n = 0
    · omega
    · have := (Nat.log2_lt h0 (k := 1)).mp (by omega)
      omega
  | succ L ih =>
    intro n h
    by_cases h8 : n < 8
    · have e : rootByHalves (L + 1) n = rootBelow8 n := by
        unfold rootByHalves
        rw [if_pos h8]
      rw [e]
      exact root_small n h8
    · have e : rootByHalves (L + 1) n = (let k := (n.log2 + 1) / 4; let x := (rootByHalves L (n / 4 ^ k) + 1) * 2 ^ k; let y := (x + n / x) / 2; if y * y > n then y - 1 else y) := by
        rw [rootByHalves, if_neg h8]
      rw [e]
      dsimp only
      have hn0 : n ≠ 0 := by omega
      have hl3 : 3 ≤ n.log2 := (Nat.le_log2 hn0).mpr (by omega)
      have hle : 2 ^ n.log2 ≤ n := Nat.log2_self_le hn0
      generalize hk : (n.log2 + 1) / 4 = k
      have k1 : 1 ≤ k := by omega
      have k4 : 4 * k ≤ n.log2 + 1 := by omega
      have p4 : (4 : Nat) ^ k = 2 ^ k * 2 ^ k := by rw [← Nat.mul_pow]
      have h0 : 0 < (2 : Nat) ^ k := Nat.pow_pos (by decide)
      have h40 : 0 < (4 : Nat) ^ k := Nat.pow_pos (by decide)
      obtain ⟨r1, r2⟩ := ih (n / 4 ^ k) (by
        by_cases hz : n / 4 ^ k = 0
        · rw [hz, Nat.log2_zero]; omega
        · have q1 : n / 4 ^ k < 2 ^ (L + 1) := by
            refine Nat.div_lt_of_lt_mul ?_
            have q2 : n < 2 ^ (n.log2 + 1) := Nat.lt_log2_self
            have q3 : (2 : Nat) ^ (n.log2 + 1) ≤ 4 ^ k * 2 ^ (L + 1) := by
              rw [p4, ← Nat.pow_add, ← Nat.pow_add]
              exact Nat.pow_le_pow_right (by decide) (by omega)
            omega
          have := (Nat.log2_lt hz (k := L + 1)).mpr q1
          omega)
      generalize hr : rootByHalves L (n / 4 ^ k) = r at r1 r2
      generalize hh : (2 : Nat) ^ k = g at h0 p4
      generalize hx : (r + 1) * g = x
      have xt : x = r * g + g := by rw [← hx]; grind
      have tt : (r * g) * (r * g) ≤ n := by
        have a1 : (r * g) * (r * g) = r * r * 4 ^ k := by rw [p4]; grind
        have a2 : r * r * 4 ^ k ≤ n / 4 ^ k * 4 ^ k := Nat.mul_le_mul_right _ r1
        have a3 : n / 4 ^ k * 4 ^ k ≤ n := Nat.div_mul_le_self ..
        omega
      have xn : n < x * x := by
        have a1 : x * x = (r + 1) * (r + 1) * 4 ^ k := by rw [p4, ← hx]; grind
        have a2 : (n / 4 ^ k + 1) * 4 ^ k ≤ (r + 1) * (r + 1) * 4 ^ k := Nat.mul_le_mul_right _ r2
        have a3 := Nat.lt_mul_div_succ n h40
        have a4 : 4 ^ k * (n / 4 ^ k + 1) = (n / 4 ^ k + 1) * 4 ^ k := Nat.mul_comm ..
        omega
      have hg : (g * g) * (g * g) ≤ 2 * n := by
        have a1 : (g * g) * (g * g) = 2 ^ (4 * k) := by
          rw [← hh, ← Nat.pow_add, ← Nat.pow_add]
          congr 1
          omega
        have a2 : (2 : Nat) ^ (4 * k) ≤ 2 ^ (n.log2 + 1) := Nat.pow_le_pow_right (by decide) k4
        have a3 : (2 : Nat) ^ (n.log2 + 1) = 2 * 2 ^ n.log2 := by rw [Nat.pow_succ]; omega
        omega
      have x0 : 0 < x := by
        refine Nat.pos_of_ne_zero fun z => ?_
        rw [z] at xn
        omega
      have hq : x * (n / x) ≤ n := Nat.mul_div_le n x
      have hq2 : n < x * (n / x + 1) := Nat.lt_mul_div_succ n x0
      generalize hqq : n / x = q at hq hq2
      generalize hy : (x + q) / 2 = y
      have hi := newton_hi x q y n hq2 (by omega)
      by_cases c : y * y > n
      · rw [if_pos c]
        have y1 : 1 ≤ y := by
          refine Nat.pos_of_ne_zero fun z => ?_
          rw [z] at c
          omega
        have lo := newton_lo x q (y - 1) n (r * g) g xt tt xn hq (by omega) hg
        refine ⟨lo, ?_⟩
        have e2 : y - 1 + 1 = y := by omega
        rw [e2]
        exact c
      · rw [if_neg c]
        exact ⟨by omega, hi⟩
theorem isqrt_ok (n : Nat) : isqrt n * isqrt n ≤ n ∧ n < (isqrt n + 1) * (isqrt n + 1) := root_ok n.log2 n (Nat.le_refl _)
end Rt

namespace Law
open PySem PySem.Spec PyProof.Rows L2
def top (i : Nat) : Stmt := PySem.Challenge.pw_rungbounds_k59_whole_trials_written_and.main.body.getD i (.Pass ⟨0, 0, 0, 0⟩)
abbrev sBox : Stmt := top 16
abbrev sTake : Stmt := top 17
/-- the box at b: the cells in the list at l, the place, what is left of a great cell, the seed -/
def Box (H : Hp) (b l : Addr) : Prop := ∃ (ns : List Int) (i : Nat) (q s : Int), H b = some (.lst [.ref l, .int i, .int q, .int s]) ∧ H l = some (.lst (ns.map V.int)) ∧ ns.length ≤ 63
theorem Box.ne {H : Hp} {b l : Addr} (B : Box H b l) : l ≠ b := fun z => by
  obtain ⟨ns, i, q, s, h1, h2, _⟩ := B
  rw [z, h1] at h2
  have e := HO.lst.inj (Option.some.inj h2)
  cases ns with
  | nil => cases e
  | cons n ns => cases e
theorem Box.keep {H H' : Hp} {b l : Addr} (B : Box H b l) (k : ∀ c, c = b ∨ c = l → H' c = H c) : Box H' b l := by
  obtain ⟨ns, i, q, s, h1, h2, h3⟩ := B
  exact ⟨ns, i, q, s, (k b (.inl rfl)).trans h1, (k l (.inr rfl)).trans h2, h3⟩
/-- a draw: 0 ≤ r < size; nothing but the box has changed -/
def spTake : Sp := fun vs H Q _ => ∃ (b l : Addr) (n : Int), vs = [.ref b, .int n] ∧ Box H b l ∧ 0 < n ∧ n.natAbs < 2 ^ 8000 ∧
  ∀ (r : Int) (H' : Hp), 0 ≤ r → r < n → Box H' b l → (∀ c, c ≠ b → H' c = H c) → Q (.int r) H'
def spBox (K : PySem.W.Frag) : Sp := fun vs H Q _ => ∃ (a : Addr) (ns : List Int), vs = [.ref a] ∧ SqL K H a (ns.map V.int) ∧ ns.length ≤ 63 ∧
  ∀ (b l : Addr) (H' : Hp), Box H' b l → H b = none → H l = none → Same H H' → Q (.ref b) H'
structure BoxTxt (K : PySem.W.Frag) (mg : Str → Option Value) : Prop where
  len : mg "len" = none
  int : mg "int" = none
section
variable {P : Program} {w : World} {K : PySem.W.Frag} {mg : Str → Option Value} {base : Heap}
theorem scTake : FnScope ["_law_box_here", "_law_size", "_law_cell", "_law_digit"] ["_law_box_here", "_law_size"] (defScope sTake) := ⟨rfl, rfl, rfl, by decide +kernel, rfl, by decide +kernel, by decide +kernel⟩
theorem if_t {c : Bool} {A B : Prop} (hc : c = true) (h : A) : if c = true then A else B := by
  rw [hc]
  exact h
theorem if_f {c : Bool} {A B : Prop} (hc : c = false) (h : B) : if c = true then A else B := by
  rw [hc]
  exact h
theorem pow18 : CPow 10 18 := ⟨by decide, by decide, by decide⟩
theorem at_box {l : Addr} {i q s : Int} : atI [V.ref l, .int i, .int q, .int s] 0 = some (.ref l) ∧ atI [V.ref l, .int i, .int q, .int s] 1 = some (.int i) ∧ atI [V.ref l, .int i, .int q, .int s] 2 = some (.int q) ∧ atI [V.ref l, .int i, .int q, .int s] 3 = some (.int s) := ⟨rfl, rfl, rfl, rfl⟩
theorem ok_take {f : Addr} {fd : FuncData} (F : Fun K "_law_take" "_law_take" sTake f fd) (T : BoxTxt K mg) : FnOk P w K mg base CX0 1 f fd ["_law_box_here", "_law_size"] spTake := by
  refine F.ok scTake (fun vs H Q E h => ?_) (fun cdv A outer s H vs Q E hr h => ?_)
  · obtain ⟨b, l, n, rfl, _⟩ := h
    rfl
  · obtain ⟨b, l, n, rfl, B, hn0, hn1, k⟩ := h
    refine ⟨_, C8.pss_cut (ps_if (PW.pt (pw_and (pt_cmpR op_lt (pe_ix ix_list (pv 0) pe_int (fun _ _ => rfl)) pe_int (nomark _))
          (pw_and1 (pt_cmpR op_lt (pe_ix ix_list (pv 0) pe_int (fun _ _ => rfl)) (pe_callB call_len_seq (by rfl) T.len PySem.boot_len (pa_cons (pe_ix ix_list (pv 0) pe_int (fun _ _ => rfl)) pa_nil)) (nomark _)))))
        (pss_cons (ps_set (i := 2) scTake.nd rfl (Or.inl rfl) (pe_ix ix_list (pe_ix ix_list (pv 0) pe_int (fun _ _ => rfl)) (pe_ix ix_list (pv 0) pe_int (fun _ _ => rfl)) (fun _ _ => rfl)))
        (pss_cons (ps_asg (pe_op op_add (pe_ix ix_list (pv 0) pe_int (fun _ _ => rfl)) pe_int) (pg_sub (pv 0) pe_int set_list))
        (pss_one (ps_if (pt_cmpR op_ge (pv 2) (pe_op op_pow pe_int pe_int) (nomark _))
          (pss_one (ps_asg (pe_op op_sub (pv 2) (pe_op op_pow pe_int pe_int)) (pg_sub (pv 0) pe_int set_list)))
          (pss_one (ps_asg (pe_op op_mod (pe_callTy call_int1 (by rfl) T.int (by decide +kernel) (pa_cons (pe_op op_add (pe_op op_add (pe_op op_mul (pe_ix ix_list (pv 0) pe_int (fun _ _ => rfl)) pe_int) (pe_op op_mul (pv 2) pe_int)) pe_int) pa_nil)) pe_int) (pg_sub (pv 0) pe_int set_list)))))))
        pss_nil)
      (pss_cons (ps_if (pt_cmpR op_gt (pe_ix ix_list (pv 0) pe_int (fun _ _ => rfl)) pe_int (nomark _))
        (pss_cons (ps_set (i := 3) scTake.nd rfl (Or.inl rfl) (pe_op op_mod (pe_callTy call_int1 (by rfl) T.int (by decide +kernel) (pa_cons (pe_ix ix_list (pv 0) pe_int (fun _ _ => rfl)) pa_nil)) (pv 1)))
        (pss_cons (ps_asg (pe_op op_fdivW (pe_ix ix_list (pv 0) pe_int (fun _ _ => rfl)) (pv 1)) (pg_sub (pv 0) pe_int set_list))
        (pss_one (ps_ret (pv 3))))) pss_nil)
      (pss_cons (ps_asg (pe_op op_mod (pe_callTy call_int1 (by rfl) T.int (by decide +kernel) (pa_cons (pe_op op_mul (pe_ix ix_list (pv 0) pe_int (fun _ _ => rfl)) pe_int) pa_nil)) pe_int) (pg_sub (pv 0) pe_int set_list))
      (pss_one (ps_ret (pe_op op_mod (pe_callTy call_int1 (by rfl) T.int (by decide +kernel) (pa_cons (pe_op op_fdiv (pe_ix ix_list (pv 0) pe_int (fun _ _ => rfl)) pe_int) pa_nil)) (pv 1)))))), ?_⟩
    obtain ⟨ns, i, q, sd, hb, hl, h63⟩ := id B
    have hne := B.ne
    have keepB : ∀ {H' : Hp} {i' : Nat} {q' s' : Int}, H' b = some (.lst [.ref l, .int i', .int q', .int s']) → (∀ c, c ≠ b → H' c = H c) → Box H' b l :=
      fun {H' i' q' s'} h1 h2 => ⟨ns, i', q', s', h1, (h2 l hne).trans hl, h63⟩
    refine ⟨fun σ' H' => ∃ (v : Option V) (i' : Nat) (q' s' : Int), σ' = [some (.ref b), some (.int n), v, none] ∧ H' b = some (.lst [.ref l, .int i', .int q', .int s']) ∧ ∀ c, c ≠ b → H' c = H c, ?_, ?_⟩
    · -- a new cell is read, or not
      refine ⟨_, rfl, b, _, _, _, rfl, rfl, SqL.of hb, at_box.2.2.1, _, _, rfl, rfl, _, rfl, ?_⟩
      by_cases c1 : q < 1
      · refine if_t (decide_eq_true c1) ?_
        refine ⟨_, rfl, b, _, _, _, rfl, rfl, SqL.of hb, at_box.2.1, _, rfl, b, _, _, _, rfl, rfl, SqL.of hb, at_box.1, l, _, rfl, .inl (SqL.of hl), _, _, rfl, rfl, _, rfl, ?_⟩
        by_cases c2 : (i : Int) < ((ns.map V.int).length : Int)
        · refine if_t (decide_eq_true c2) ?_
          rw [List.length_map] at c2
          obtain ⟨z, hz⟩ : ∃ z, ns[i]? = some z := ⟨_, List.getElem?_eq_getElem (by omega)⟩
          have hz' : atI (ns.map V.int) (i : Int) = some (V.int z) := atI_nat (by rw [List.getElem?_map, hz]; rfl)
          refine ⟨_, rfl, b, _, _, _, rfl, rfl, SqL.of hb, at_box.1, _, rfl, b, _, _, _, rfl, rfl, SqL.of hb, at_box.2.1, l, _, _, _, rfl, rfl, SqL.of hl, hz', ?_⟩
          refine ⟨_, rfl, b, _, _, _, rfl, rfl, SqL.of hb, at_box.2.1, _, _, rfl, rfl, _, rfl, b, _, _, 1, rfl, rfl, hb, rfl, ?_⟩
          have h1 : ∀ (o : HO), upd H b o b = some o := fun o => upd_same
          have hc : ∀ (o : HO) c, c ≠ b → upd H b o c = H c := fun o c hc => upd_ne hc
          refine ⟨_, rfl, _, _, rfl, rfl, pow18, _, _, rfl, rfl, _, rfl, ?_⟩
          refine ite2 (fun _ => ?_) fun _ => ?_
          · refine ⟨_, rfl, _, _, rfl, rfl, pow18, _, _, rfl, rfl, _, rfl, b, _, _, 2, rfl, rfl, h1 _, rfl, ?_⟩
            exact ⟨some (.int z), i + 1, _, sd, rfl, upd_same, fun c hc' => by rw [upd_ne hc', upd_ne hc']⟩
          · refine ⟨_, rfl, b, _, _, _, rfl, rfl, SqL.of (h1 _), at_box.2.2.2, _, _, rfl, rfl, .inr ⟨by decide, by decide⟩, _, rfl, _, _, rfl, rfl, .inr ⟨by decide, by decide⟩, _, _, rfl, rfl, _, _, rfl, rfl, .inl ⟨_, rfl, _, _, rfl, rfl, (by show (0 : Int) < 2147483647; decide), _, rfl, b, _, _, 3, rfl, rfl, h1 _, rfl, ?_⟩⟩
            exact ⟨some (.int z), i + 1, q, _, rfl, upd_same, fun c hc' => by rw [upd_ne hc', upd_ne hc']⟩
        · refine if_f (decide_eq_false c2) ?_
          exact ⟨none, i, q, sd, rfl, hb, fun _ _ => rfl⟩
      · refine if_f (decide_eq_false c1) ?_
        exact ⟨none, i, q, sd, rfl, hb, fun _ _ => rfl⟩
    · rintro σ' H' ⟨v, i', q', s', rfl, hb', ho⟩
      refine ⟨_, rfl, b, _, _, _, rfl, rfl, SqL.of hb', at_box.2.2.1, _, _, rfl, rfl, _, rfl, ?_⟩
      refine ite2 (fun _ => ?_) fun _ => ?_
      · refine ⟨_, rfl, b, _, _, _, rfl, rfl, SqL.of hb', at_box.2.2.1, .inl ⟨_, rfl, _, rfl, _, _, rfl, rfl, hn0, ?_⟩⟩
        refine ⟨_, rfl, b, _, _, _, rfl, rfl, SqL.of hb', at_box.2.2.1, _, rfl, _, _, rfl, rfl, wide_div hn0 hn1 (by decide) (by decide), _, rfl, b, _, _, 2, rfl, rfl, hb', rfl, _, rfl, ?_⟩
        exact k _ _ (Int.emod_nonneg _ (by omega)) (Int.emod_lt_of_pos _ hn0) (keepB (q' := q' / n) upd_same fun c hc => (upd_ne hc).trans (ho c hc)) fun c hc => (upd_ne hc).trans (ho c hc)
      · refine ⟨_, rfl, b, _, _, _, rfl, rfl, SqL.of hb', at_box.2.2.2, _, _, rfl, rfl, .inr ⟨by decide, by decide⟩, .inl ⟨_, rfl, _, _, rfl, rfl, (by show (0 : Int) < 2147483647; decide), _, rfl, b, _, _, 3, rfl, rfl, hb', rfl, ?_⟩⟩
        refine ⟨_, rfl, b, _, _, _, rfl, rfl, SqL.of upd_same, at_box.2.2.2, _, _, rfl, rfl, ⟨by decide, by decide⟩, .inl ⟨_, rfl, _, rfl, _, _, rfl, rfl, hn0, ?_⟩⟩
        exact k _ _ (Int.emod_nonneg _ (by omega)) (Int.emod_lt_of_pos _ hn0) (keepB upd_same fun c hc => (upd_ne hc).trans (ho c hc)) fun c hc => (upd_ne hc).trans (ho c hc)

theorem cut63 {xs : List V} (h : xs.length ≤ 63) : cutV xs none (some 63) = xs := by
  unfold cutV
  have e0 : HT.sIx xs.length 0 none = 0 := rfl
  have e1 : HT.sIx xs.length xs.length (some 63) = xs.length := by
    unfold HT.sIx
    simp
    omega
  rw [e0, e1, List.drop_zero, Nat.sub_zero, List.take_length]
theorem scBox : FnScope ["_law_script", "_law_cell"] ["_law_script"] (defScope sBox) := ⟨rfl, rfl, rfl, by decide +kernel, rfl, by decide +kernel, by decide +kernel⟩
theorem ok_box {f : Addr} {fd : FuncData} (F : Fun K "_law_box" "_law_box" sBox f fd) (T : BoxTxt K mg) : FnOk P w K mg base CX0 1 f fd ["_law_script"] (spBox K) := by
  refine F.ok scBox (fun vs H Q E h => ?_) (fun cdv A outer s H vs Q E hr h => ?_)
  · obtain ⟨a, ns, rfl, _⟩ := h
    rfl
  · obtain ⟨a, ns, rfl, hS, h63, k⟩ := h
    refine ⟨_, pss_one (ps_ret (pe_lst (pa_cons (pe_lc (own := [("_law_cell", 1)]) (g := gName 1) (tt := tYes) (by rfl) scBox.nd (pi_list (pe_slice sl_list (pv 0) po_none (po_some pe_int)))
        (blkOk_by (own := [("_law_cell", 1)]) (N := ["_law_script", "_law_cell"]) (sc := defScope sBox) (by decide +kernel)) (fun _ _ _ _ _ => pg_name (i := 1) scBox.nd rfl (Or.inl rfl)) (fun _ _ _ _ _ => pts_nil)
        (fun _ _ _ _ _ => pe_callTy call_int1 (by rfl) T.int (by decide +kernel) (pa_cons (pv 1) pa_nil))) (pa_cons pe_int (pa_cons pe_int (pa_cons pe_int pa_nil)))))), ?_⟩
    have e63 : cutV (ns.map V.int) none (some 63) = ns.map V.int := cut63 (by rw [List.length_map]; exact h63)
    refine ⟨_, rfl, 63, rfl, a, _, rfl, hS, fun p hp => ?_⟩
    rw [e63]
    refine ⟨p, rfl, ⟨_, SqL.of upd_same⟩, fun D hD => ?_⟩
    have hpD : p ≠ D := fun z => by
      rw [z, upd_same] at hD
      cases hD
    have hD0 : H D = none := by rw [upd_ne (Ne.symm hpD)] at hD; exact hD
    refine lc_list (K := K) (a := p) (xs := ns.map V.int) (fun i H' => H' D = some (.lst ((ns.take i).map V.int)) ∧ H' p = some (.lst (ns.map V.int)) ∧ ∀ c, c ≠ D → c ≠ p → H' c = H c)
      ⟨upd_same, by rw [upd_ne hpD, upd_same], fun c h1 h2 => by rw [upd_ne h1, upd_ne h2]⟩ (fun i H' _ h => SqL.of h.2.1) ?_ ?_
    · rintro i y H' hi ⟨g1, g2, g3⟩
      obtain ⟨z, hz, rfl⟩ : ∃ z, ns[i]? = some z ∧ y = V.int z := by
        rw [List.getElem?_map] at hi
        cases e : ns[i]? with
        | none =>
          rw [e] at hi
          cases hi
        | some z =>
          rw [e] at hi
          exact ⟨z, rfl, (Option.some.inj hi).symm⟩
      refine ⟨rfl, ?_⟩
      have step : ∃ acc, H' D = some (.lst acc) ∧ acc.length < sizeLine ∧ (upd H' D (.lst (acc ++ [V.int z]))) D = some (.lst ((ns.take (i + 1)).map V.int)) ∧ (upd H' D (.lst (acc ++ [V.int z]))) p = some (.lst (ns.map V.int)) ∧
          ∀ c, c ≠ D → c ≠ p → (upd H' D (.lst (acc ++ [V.int z]))) c = H c := by
        refine ⟨_, g1, ?_, ?_⟩
        · rw [List.length_map, List.length_take]
          exact small1000 (by omega)
        · refine ⟨?_, by rw [upd_ne hpD]; exact g2, fun c h1 h2 => by rw [upd_ne h1]; exact g3 c h1 h2⟩
          rw [upd_same, List.take_succ, hz, Option.toList_some, List.map_append]
          rfl
      exact ⟨V.int z, rfl, .inl ⟨z, rfl, step⟩⟩
    · rintro H' ⟨g1, g2, g3⟩
      rw [List.length_map, List.take_length] at g1
      refine ⟨(by show 4 ≤ sizeLine; decide), fun b hb => ?_⟩
      have hDb : D ≠ b := ne_of_none g1 hb
      have hpb : p ≠ b := ne_of_none g2 hb
      refine k b D _ ⟨ns, 0, 0, 0, upd_same, by rw [upd_ne hDb]; exact g1, h63⟩ (by rw [← g3 b (Ne.symm hDb) (Ne.symm hpb)]; exact hb) hD0 fun c o hc => ?_
      have n1 : c ≠ D := ne_of_none hc hD0
      have n2 : c ≠ p := ne_of_none hc hp
      have n3 : c ≠ b := fun z => by
        rw [z, ← g3 b (Ne.symm hDb) (Ne.symm hpb), hb] at hc
        cases hc
      rw [upd_ne n3, g3 c n1 n2]
      exact hc
end
end Law

/-! cls(..) where cls is a local; C.m(..) of a classmethod that may raise, at the slots. -/
namespace Own
open PySem PySem.Spec PyProof.Rows L2
section
variable {X : Cx} {CX : CXT} {k i : Nat} {C g f p0 : Addr} {sp : Sp} {E : L2.St → XK} {x m : Str} {o e : Expr} {es : List Expr} {t : TA} {ta : TE} {p pos apos : Pos} {mc : Value} {pl : Sem Bool}
theorem pe_makeV (M : Mk X.K C f) (F : FnR X.prog X.w X.K X.mg X.base CX k f sp) (hr : Room (k + 1) X.A) (hN : X.N[i]? = some x) (hv : Vis X.env.scope x) (hx : ∀ σ, PassesAt CX X σ (E σ)) (ha : PA X (e :: es) t) (hd : (x == ("__debug__" : Str)) = false := by decide) (hcd : (x == ("__classdict__" : Str)) = false := by decide)
    (he : starEach (e :: es) X.env = (false, eval e X.env) :: starEach es X.env := by rfl) (hpl : (backTo pos (starEach es X.env)).any (·.1) = false := by rfl) :
    PE X (.Call (.Name x p) (e :: es) [] pos) (fun σ H Q => σ[i]? = some (some (.ref C)) ∧ t σ H fun vs H1 => MkS C sp (E σ) vs H1 Q) := by
  refine ⟨fun pins s σ H Q I h => ?_⟩
  obtain ⟨hs, h⟩ := h
  refine wpAny_Call_Name_kw (thn ((pe_var (pos := p) (i := i) hN hv hd hcd).run pins s σ H (fun v H1 => v = .ref C ∧ H1 = H) I ⟨.ref C, hs, rfl, rfl⟩) fun u s0 ⟨v, H0, I0, r0, ev, eH⟩ => ?_)
  subst ev
  rw [eH] at I0
  cases r0
  refine PySem.W.callWith_K (h₀ := X.base) I0.ok.mod.kin M.kp (thn (ha.run pos pins s0 σ H _ I0 h) fun us s1 ⟨vs, H1, I1, r, q⟩ => ⟨I1.kIn, ?_⟩) he hpl
  have hq := q.run (s1.heap.objs.size + 1) s1.heap.objs.size (I1.hok.fresh (Nat.le_succ _)) (I1.hok.fresh (Nat.le_refl _)) (Nat.ne_of_lt (Nat.lt_succ_self _))
  have I2 := Inv.made (C := C) I1
  have r2 : Vals (V.ref (s1.heap.objs.size + 1) :: vs) (Value.ref (s1.heap.objs.size + 1) :: us) := .cons rfl r
  refine wpAny_call (make_map (f := f) I1.kIn M.makes M.init (beq_iff_eq.mp M.fn) (codeAny_mono (F _ X.stack _ _ (Value.ref (s1.heap.objs.size + 1) :: us) _ _ (E σ) (hr.make C us []) (I2.env0.make C us []) r2 hq) fun r s' hq' => ?_))
  cases r with
  | error e => exact hx σ pins _ _ e s' I2 hq'
  | ok fl =>
    cases fl with
    | ret u =>
      obtain ⟨v, H', I3, rv, ev, q3⟩ := I2.after hq'
      subst ev
      exact ⟨rv, ⟨V.ref (s1.heap.objs.size + 1), H', I3, rfl, q3⟩⟩
    | next => exact False.elim hq'
    | brk => exact False.elim hq'
    | cont => exact False.elim hq'
theorem run_cmS {pins : List (Addr × Obj)} {σ : L2.St} {H : Hp} {s : Shared} {q : Addr} {Q : VK} {us : List Value} {vs : List V} (F : FnR X.prog X.w X.K X.mg X.base CX k g sp) (hr : Room k X.A) (hx : PassesAt CX X σ (E σ)) (I : L2.Inv X ((q, PySem.W.methodObj (.ref g) (.ref C)) :: pins) σ H s)
    (r : Vals vs us) (h : sp (.ref C :: vs) H Q (E σ)) : wpAny (model X.prog X.w) X.A (call (.ref q) us) (EP X pins σ Q) X.xe s := by
  have z : wpAny (model X.prog X.w) X.A (call (.ref q) us) (EP X ((q, PySem.W.methodObj (.ref g) (.ref C)) :: pins) σ Q) X.xe s :=
    wpAny_call (PySem.W.method_call (ClX.pin_at I) (run_fnRS (us := .ref C :: us) (vs := .ref C :: vs) F hr hx I (.cons rfl r) h))
  exact wpAny_mono z (fun _ _ h => ClX.unpinE h) fun _ _ h => h
def tCMethS (C : Addr) (sp : Sp) (E : L2.St → XK) (ta : TE) (t : TA) : TE := fun σ H Q => ta σ H fun x H1 => x = .ref C ∧ t σ H1 fun vs H2 => sp (.ref C :: vs) H2 Q (E σ)
theorem pe_cmethS (he : PE X o ta) (r : ClX.CRead X.K C mc) (c : ClX.CMet X.K C mc m p0 g) (F : FnR X.prog X.w X.K X.mg X.base CX k g sp) (hr : Room k X.A) (hx : ∀ σ, PassesAt CX X σ (E σ)) (ha : PA X (e :: es) t)
    (hst : starEach (e :: es) X.env = (false, eval e X.env) :: starEach es X.env := by rfl) (hpl : (backTo pos (starEach es X.env)).any (·.1) = false := by rfl)
    (ht : eval (.Call (.Attribute o m apos) (e :: es) [] pos) X.env = (do
      let ov ← eval o X.env
      standAt apos.atName
      let (f, first) ← holding [ov] (getMethod ov m pl)
      callWith pos f first (backTo pos (starEach (e :: es) X.env)) (backToKw pos (keywordEach [] X.env))) := by rfl) :
    PE X (.Call (.Attribute o m apos) (e :: es) [] pos) (tCMethS C sp E ta t) := by
  refine ⟨fun pins s σ H Q I h => ?_⟩
  refine PySem.W.methodCall_KW (pl := pl) (thn (he.run pins s σ H _ I h) fun u s1 ⟨x, H1, I1, rx, ex, q⟩ => ?_) ht
  subst ex
  obtain rfl : u = Value.ref C := rx
  refine ClX.getmethcm_ok I1 r c fun s2 I2 => ?_
  refine ClX.callwith_cm I2 (ClX.base_none I1 (Nat.le_refl _)) c.fi (thn (ha.run pos _ s2 σ H1 _ I2 q) fun us s3 ⟨vs, H2, I3, rv, q2⟩ => ⟨⟨ClX.pin_at I3, I3.kIn⟩, ?_⟩) hst hpl
  exact run_cmS F hr (hx σ) I3 rv q2
end
end Own

/-! Unary operators, str, and == against anything, of own classes. -/
namespace Own
open PySem PySem.Spec PyProof.Rows L2
section
variable {X : Cx} {CX : CXT} {k : Nat} {C g : Addr} {sp : Sp} {E : XK}
def rOwn1 (C : Addr) (sp : Sp) (E : XK) : V → Hp → VK → Prop := fun x H Q => ∃ a dx fs, x = .ref a ∧ H a = some (.ins C dx fs) ∧ sp [.ref a] H Q E
theorem un_own (F : FnR X.prog X.w X.K X.mg X.base CX k g sp) (hs : PySem.W.findIn X.K (.ref C) "__invert__" = some (some (.ref g))) (hf : PySem.W.isFn X.K (.ref g) = true) (hr : Room k X.A) (hx : Passes CX X E) :
    UnR X (PySem.unaryOp .Invert) (rOwn1 C sp E) := by
  intro pins s σ H x v Q I rx h
  obtain ⟨a, dx, fs, rfl, ha, hsp⟩ := h
  cases rx
  obtain ⟨mA, J, _⟩ := ins_get I.hok ha
  obtain ⟨od, J, _⟩ := J.look
  obtain ⟨m, hF⟩ := I.fr
  unfold PySem.unaryOp
  refine wpAny_holding ?_
  show wpAny _ _ (PySem.callSpecial? (.ref a) "__invert__" [] >>= _) _ _ _
  refine wpAny_bind (PySem.W.special_fn (I.ok.mod.kin.keeps hF.keep) J hs (beq_iff_eq.mp hf) (wpAny_mono (wpAny_call (run_fnR F hr hx I (us := [.ref a]) (vs := [.ref a]) (.cons rfl .nil) hsp)) (fun _ _ z => wpAny_pure z) fun _ _ z => z))
/-- str of an instance -/
def rStrO (C : Addr) (sp : Sp) (E : XK) : List V → Hp → VK → Prop := fun xs H Q => ∃ a dx fs, xs = [.ref a] ∧ H a = some (.ins C dx fs) ∧ sp [.ref a] H (fun v H' => ∃ y, v = .str y ∧ Q v H') E
theorem call_strO (F : FnR X.prog X.w X.K X.mg X.base CX k g sp) (hs : PySem.W.findIn X.K (.ref C) "__str__" = some (some (.ref g))) (hf : PySem.W.isFn X.K (.ref g) = true)
    (hr : Room (k + 2) X.A) (hx : Passes CX X E) : CallR X (.type "str") (rStrO C sp E) := by
  intro pins s σ H xs us Q I r h
  obtain ⟨a, dx, fs, rfl, ha, hsp⟩ := h
  obtain ⟨u, rfl, r1⟩ : ∃ u, us = [u] ∧ RelV (.ref a) u := by
    cases r with
    | cons r1 rr =>
      cases rr
      exact ⟨_, rfl, r1⟩
  cases r1
  obtain ⟨mA, J, _⟩ := ins_get I.hok ha
  obtain ⟨od, J, _⟩ := J.look
  obtain ⟨m, hF⟩ := I.fr
  refine PySem.W.kso_call ?_ (I.ok.mod.kin.keeps hF.keep) J hs hf (wpAny_mono (run_at F ?_ ?_ hx I (us := [.ref a]) (vs := [.ref a]) (.cons rfl .nil) hsp) (fun u s' z => ?_) fun _ _ z => z)
  · have := hr.un
    show X.A.units + 1 + 1 < _
    omega
  · exact (Room.in1 (k := k + 1) hr).in1
  · exact I.env0.frames
  · obtain ⟨v, H', I', rv, y, rfl, q⟩ := z
    obtain ⟨t, rfl⟩ := rv
    exact ⟨.str y, H', I', ⟨t, rfl⟩, q⟩
/-- an instance compared with a tuple -/
def rOwnT (C : Addr) (sp : Sp) (E : XK) : R2 := fun x y H Q => ∃ a b dx fs ys, x = .ref a ∧ y = .ref b ∧ H a = some (.ins C dx fs) ∧ H b = some (.tup ys) ∧ sp [.ref a, .ref b] H Q E
theorem op_cmpT {op : CmpOp} (hop : ∀ v u, compareOp op v u = richCompare op v u) (F : FnR X.prog X.w X.K X.mg X.base CX k g sp) (hs : PySem.W.findIn X.K (.ref C) (cmpInfo op).2.1 = some (some (.ref g))) (hf : PySem.W.isFn X.K (.ref g) = true)
    (hsub : PySem.W.subIn X.K (.type "tuple") (.ref C) = some false) (hr : Room k X.A) (hx : Passes CX X E) : OpR X (compareOp op) (rOwnT C sp E) := by
  intro pins s σ H x y v u Q I rx ry h
  obtain ⟨a, b, dx, fs, ys, rfl, rfl, ha, hb, hsp⟩ := h
  cases rx
  cases ry
  obtain ⟨mA, J, _⟩ := ins_get I.hok ha
  obtain ⟨od, J, _⟩ := J.look
  obtain ⟨m, hF⟩ := I.fr
  obtain ⟨_, _, _, p⟩ := (show ObjOk X.prog X.w H s.heap b (.tup ys) from I.hok b _ hb)
  obtain ⟨o, h1, h2, _⟩ := p
  rw [hop]
  refine PySem.W.cmp_K (op := op) (tb := .type "tuple") hr.units0 hF I.ok.mod.kin J (PySem.W.kitAt_ty _ _ ⟨o, h1, h2⟩) (by simp [PySem.W.notFirst, hsub]) hs hf ?_
  exact wpAny_mono (wpAny_call (run_fnR F hr hx I (us := [.ref a, .ref b]) (vs := [.ref a, .ref b]) (.cons rfl (.cons rfl .nil)) hsp)) (fun _ _ z => back z) fun _ _ z => z
end
end Own

/-! What the law's own defs of several laws want: comprehensions told by a function, draws, texts as data. -/
namespace Law
open PySem PySem.Spec PyProof.Rows L2
def SameB (b : Addr) (H H' : Hp) : Prop := ∀ c o, c ≠ b → H c = some o → H' c = some o
theorem SameB.of {b : Addr} {H H' : Hp} (k : ∀ c, c ≠ b → H' c = H c) : SameB b H H' := fun c o n e => (k c n).trans e
theorem SameB.trans {b : Addr} {H H1 H2 : Hp} (s : SameB b H H1) (t : SameB b H1 H2) : SameB b H H2 := fun c o n e => t c o n (s c o n e)
theorem SameB.of_same {b : Addr} {H H' : Hp} (s : Same H H') : SameB b H H' := fun c o _ e => s c o e
theorem same_tr {H H1 H2 : Hp} (s : Same H H1) (t : Same H1 H2) : Same H H2 := fun c o e => t c o (s c o e)
theorem same_rfl {H : Hp} : Same H H := fun _ _ e => e
theorem Room.u65 {k : Nat} {A : Around} (r : Room k A) : A.units + 65 < cLine := by have := r.un; omega
theorem Box.free {H : Hp} {b l d : Addr} (B : Box H b l) (h : H d = none) : b ≠ d ∧ l ≠ d := by
  obtain ⟨ns, i, q, s, h1, h2, _⟩ := B
  exact ⟨ne_of_none h1 h, ne_of_none h2 h⟩
theorem Box.at {H : Hp} {b l d : Addr} {o : HO} (B : Box H b l) (n : b ≠ d ∧ l ≠ d) : Box (upd H d o) b l := B.keep fun c hc => by
  rcases hc with rfl | rfl
  · exact upd_ne n.1
  · exact upd_ne n.2
theorem Box.same {H H' : Hp} {b l : Addr} (B : Box H b l) (s : Same H H') : Box H' b l := by
  obtain ⟨ns, i, q, s', h1, h2, h3⟩ := B
  exact ⟨ns, i, q, s', s _ _ h1, s _ _ h2, h3⟩
theorem Box.neT {H : Hp} {b l c : Addr} {xs : List V} (B : Box H b l) (h : H c = some (.tup xs)) : c ≠ b := fun z => by
  obtain ⟨_, _, _, _, q, _⟩ := B
  rw [z, q] at h
  cases h
theorem Box.neD {H : Hp} {b l c : Addr} {kv : List (Key × V)} (B : Box H b l) (h : H c = some (.dK kv)) : c ≠ b ∧ c ≠ l := by
  obtain ⟨_, _, _, _, q, q2, _⟩ := B
  exact ⟨fun z => (by rw [z, q] at h; cases h), fun z => (by rw [z, q2] at h; cases h)⟩
theorem Box.neI {H : Hp} {b l c C dx : Addr} {fs : List (Str × V)} (B : Box H b l) (h : H c = some (.ins C dx fs)) : c ≠ b ∧ c ≠ l := by
  obtain ⟨_, _, _, _, q, q2, _⟩ := B
  exact ⟨fun z => (by rw [z, q] at h; cases h), fun z => (by rw [z, q2] at h; cases h)⟩
theorem same_new {H : Hp} {p : Addr} {o : HO} (h : H p = none) : Same H (upd H p o) := fun b o' e => by
  rw [upd_ne (ne_of_none e h)]
  exact e
theorem none_back {H H' : Hp} {x : Addr} (s : Same H H') (h : H' x = none) : H x = none := by
  cases e : H x with
  | none => rfl
  | some o =>
    have z := s _ _ e
    rw [h] at z
    cases z
/-- within a comprehension whose turn i adds out i (or nothing), all else new -/
def LcP (D : Addr) (H1 : Hp) (out : Nat → Option V) (i : Nat) (H : Hp) : Prop := H D = some (.lst ((List.range i).filterMap out)) ∧ Same H1 H
section
variable {D : Addr} {H1 H H4 : Hp} {out : Nat → Option V} {i : Nat} {y : V}
theorem LcP.start (hD : H1 D = none) : LcP D H1 out 0 (upd H1 D (.lst [])) := ⟨upd_same, same_new hD⟩
theorem fm_len (i : Nat) : ((List.range i).filterMap out).length ≤ i := by
  have := List.length_filterMap_le out (List.range i)
  rw [List.length_range] at this
  exact this
theorem fm_succ : (List.range (i + 1)).filterMap out = (List.range i).filterMap out ++ (out i).toList := by
  rw [List.range_succ, List.filterMap_append]
  cases e : out i <;> simp [e]
theorem LcP.push (h : LcP D H1 out i H) (hD : H1 D = none) (s : Same H H4) (ho : out i = some y) (hi : i < 1000) :
    ∃ acc, H4 D = some (.lst acc) ∧ acc.length < sizeLine ∧ LcP D H1 out (i + 1) (upd H4 D (.lst (acc ++ [y]))) := by
  refine ⟨_, s _ _ h.1, small1000 (Nat.le_of_lt (Nat.lt_of_le_of_lt (fm_len i) hi)), ?_, fun b o e => ?_⟩
  · rw [upd_same, fm_succ, ho]
    rfl
  · rw [upd_ne (ne_of_none e hD)]
    exact s _ _ (h.2 _ _ e)
theorem LcP.skip (h : LcP D H1 out i H) (s : Same H H4) (ho : out i = none) : LcP D H1 out (i + 1) H4 := by
  refine ⟨?_, same_tr h.2 s⟩
  rw [fm_succ, ho, s _ _ h.1]
  simp
end
theorem range_fm {α β : Type} (f : α → Option β) (xs : List α) : (List.range xs.length).filterMap (fun i => xs[i]?.bind f) = xs.filterMap f := by
  induction xs with
  | nil => rfl
  | cons x xs ih =>
    rw [List.length_cons, List.range_succ_eq_map, List.filterMap_cons, List.filterMap_map, List.filterMap_cons]
    have e : (fun i => (x :: xs)[i]?.bind f) ∘ Nat.succ = fun i => xs[i]?.bind f := by
      funext i
      simp
    rw [e, ih]
    simp
theorem range_id {α : Type} (xs : List α) : (List.range xs.length).filterMap (fun i : Nat => xs[i]?) = xs := by
  have e := range_fm (some : α → Option α) xs
  have e1 : (fun i : Nat => xs[i]?.bind some) = fun i : Nat => xs[i]? := by
    funext i
    cases xs[i]? <;> rfl
  rw [e1] at e
  rw [e]
  simp
theorem fm_any {α β : Type} (p : α → Bool) (f : α → β) (xs : List α) : decide ((0 : Int) < (((xs.filterMap fun c => if p c = true then none else some (f c)).length : Nat) : Int)) = xs.any fun c => !p c := by
  induction xs with
  | nil => rfl
  | cons x xs ih =>
    rw [List.filterMap_cons, List.any_cons, ← ih]
    cases h : p x with
    | true => simp
    | false =>
      simp
theorem at_nat {xs : List V} {j : Nat} {v : V} (h : xs[j]? = some v) : atI xs (j : Int) = some v := atI_nat h
/-! texts as data -/
theorem ok_str {y : Str} (h : ∀ c ∈ y.cps.toList, c < 1114112) : PyData.canLay0 (.str y) = true := by
  have e : PyData.canLay0 (.str y) = PyData.strOk y := by simp only [PyData.canLay0]
  rw [e]
  unfold PyData.strOk
  rw [← Array.all_toList, List.all_eq_true]
  intro c hc
  exact decide_eq_true (h c hc)
theorem ok_strs : ∀ {ys : List Str}, (∀ y ∈ ys, ∀ c ∈ y.cps.toList, c < 1114112) → PyData.canLayAll0 (ys.map PyData.str) = true
  | [], _ => by simp only [List.map_nil, PyData.canLayAll0]
  | y :: ys, h => by
    rw [List.map_cons]
    simp only [PyData.canLayAll0]
    rw [Bool.and_eq_true]
    exact ⟨ok_str (h y List.mem_cons_self), ok_strs fun x hx => h x (List.mem_cons_of_mem _ hx)⟩
theorem deep_strs : ∀ ys : List Str, PyData.depthAll (ys.map PyData.str) = 0
  | [] => by simp [PyData.depthAll]
  | y :: ys => by
    rw [List.map_cons]
    simp [PyData.depthAll, PyData.depth, deep_strs ys]
theorem shaped_str {y : Str} (h : ∀ c ∈ y.cps.toList, c < 1114112) : SeqAt.shaped (.str y) = true := by
  unfold SeqAt.shaped
  rw [ok_str h]
  simp [PyData.depth]
theorem shaped_strs {ys : List Str} (h : ∀ y ∈ ys, ∀ c ∈ y.cps.toList, c < 1114112) : SeqAt.shaped (.list (ys.map PyData.str)) = true := by
  unfold SeqAt.shaped
  have e : PyData.canLay0 (.list (ys.map PyData.str)) = true := by
    simp only [PyData.canLay0]
    exact ok_strs h
  rw [e]
  simp [PyData.depth, deep_strs]
theorem dp_strs {K : PySem.W.Frag} {H : Hp} : ∀ ys : List Str, DpAll K H (ys.map V.str) (ys.map PyData.str)
  | [] => .nil
  | _ :: ys => .cons (.str _) (dp_strs ys)
theorem any_strs (ys : List Str) (y : Str) : ((ys.map PyData.str).any fun z => PyData.eqv z (.str y)) = ys.contains y := by
  induction ys with
  | nil => rfl
  | cons x ys ih =>
    rw [List.map_cons, List.any_cons, ih, List.contains_cons]
    have e : PyData.eqv (.str x) (.str y) = (y == x) := by
      simp only [PyData.eqv]
      by_cases h : x = y
      · subst h
        rfl
      · have h1 : (x == y) = false := by simpa using h
        have h2 : (y == x) = false := by simpa using fun z => h z.symm
        rw [h1, h2]
    rw [e]
/-- two shaped data that are told the same are equal -/
theorem eqv_rfl {d : PyData} (h : SeqAt.shaped d = true) : PyData.eqv d d = true := SeqAt.eqv_refl _ (SeqAt.canLay_of_shaped h)
theorem shaped_pair {a b : PyData} (ha : PyData.canLay0 a = true) (hb : PyData.canLay0 b = true) (da : PyData.depth a = 0) (db : PyData.depth b = 0) : SeqAt.shaped (.tuple [a, b]) = true := by
  unfold SeqAt.shaped
  have e : PyData.canLay0 (.tuple [a, b]) = true := by
    simp only [PyData.canLay0, PyData.canLayAll0, ha, hb]
    rfl
  rw [e]
  simp [PyData.depth, PyData.depthAll, da, db]
/-! texts joined without a separator, and cut -/
theorem joinL_mem : ∀ {ls : List (List Nat)} {c : Nat}, c ∈ TL.joinL [] ls → ∃ x ∈ ls, c ∈ x
  | [], c, h => by cases h
  | [p], c, h => ⟨p, List.mem_cons_self, h⟩
  | p :: q :: r, c, h => by
    rcases List.mem_append.mp h with h | h
    · exact ⟨p, List.mem_cons_self, h⟩
    · obtain ⟨x, hx, hc⟩ := joinL_mem (ls := q :: r) h
      exact ⟨x, List.mem_cons_of_mem _ hx, hc⟩
theorem joinL_len : ∀ (ls : List (List Nat)), (TL.joinL [] ls).length = (ls.map List.length).sum
  | [] => rfl
  | [p] => by simp [TL.joinL]
  | p :: q :: r => by
    show (p ++ ([] ++ TL.joinL [] (q :: r))).length = _
    rw [List.nil_append, List.length_append, joinL_len (q :: r)]
    rfl
theorem join_cps (ys : List Str) : (Txt.join "" ys).cps.toList = TL.joinL [] (ys.map fun y => y.cps.toList) := by
  have e := TL.tl_join ("" : Str) ys
  have e2 : Txt.join "" ys = Str.join "" ys := TL.join_eq _ _
  rw [e2]
  exact e
theorem cut_mem {z : Str} {lo hi : Option Int} {c : Nat} (h : c ∈ (cutS z lo hi).cps.toList) : c ∈ z.cps.toList := by
  unfold cutS at h
  exact List.mem_of_mem_drop (List.mem_of_mem_take (by simpa using h))
theorem cut_len {z : Str} {lo hi : Option Int} : (cutS z lo hi).length ≤ z.length := by
  show (((z.cps.toList.drop _).take _).toArray).size ≤ z.cps.size
  simp
  omega
theorem cps_app (a b : Str) : (a ++ b).cps.toList = a.cps.toList ++ b.cps.toList := TL.tl_append a b
end Law

namespace Law
open PySem PySem.Spec PyProof.Rows L2
theorem passS {X : Cx} {CX : CXT} {E : XK} (h : Passes CX X E) : ∀ σ, PassesAt CX X σ E := fun σ pins H s e s' I c => h pins σ H s e s' I c
end Law
namespace Law
open PySem PySem.Spec PyProof.Rows L2 Own
def Sz (i : Int) : Prop := i.natAbs < 2 ^ 200
theorem Sz.of {i : Int} (h : i.natAbs ≤ 10 ^ 42) : Sz i := Nat.lt_of_le_of_lt h (by decide +kernel)
theorem log_of {i : Int} {k : Nat} (hk : 0 < k) (h : i.natAbs < 2 ^ k) : i.natAbs.log2 < k := by
  by_cases hz : i.natAbs = 0
  · rw [hz, Nat.log2_zero]
    exact hk
  · exact (Nat.log2_lt hz).mpr h
theorem pow_ok {j : Int} (h : 0 ≤ j ∧ j ≤ 1000000) : CPow 10 j := ⟨h.1, h.2, by decide⟩
theorem size_fit {n : Int} (h0 : 0 < n) (h : n ≤ 10 ^ 40) : n.natAbs < 2 ^ 8000 := by
  have h1 : n.natAbs ≤ 10 ^ 40 := by omega
  exact Nat.lt_of_le_of_lt h1 (by decide +kernel)
end Law
namespace Law
open PySem PySem.Spec PyProof.Rows L2 Sup
abbrev sTini : Stmt := inClass (top 5) 0
abbrev sTnv : Stmt := inClass (top 5) 3
abbrev sTeq : Stmt := inClass (top 5) 4
abbrev sTst : Stmt := inClass (top 5) 5
/-- a trial of the class at CT -/
def Tri (CT : Addr) (H : Hp) (x : Addr) (p h : Int) (r : Bool) : Prop := ∃ dx fs, H x = some (.ins CT dx fs) ∧ fs.lookup ("place" : Str) = some (V.int p) ∧ fs.lookup ("height" : Str) = some (V.int h) ∧ fs.lookup ("reached" : Str) = some (V.bl r) ∧ fs.lookup ("agrees" : Str) = none
theorem Tri.same {CT : Addr} {H H' : Hp} {x : Addr} {p h : Int} {r : Bool} (t : Tri CT H x p h r) (s : Same H H') : Tri CT H' x p h r := by
  obtain ⟨dx, fs, h1, h2⟩ := t
  exact ⟨dx, fs, s _ _ h1, h2⟩
structure TriTxt (K : PySem.W.Frag) (mg : Str → Option Value) (CT : Addr) : Prop where
  tri : mg "Trial" = some (.ref CT)
  isi : mg "isinstance" = none
  b_len : mg "len" = none
  cl : Cls K CT
  nP : NoAttr K CT "place"
  nH : NoAttr K CT "height"
  nR : NoAttr K CT "reached"
  ha : PySem.W.findIn K (.ref CT) "__class__" = some (some (.builtin "object.__class__"))
  hn : PySem.W.specialIn K (.builtin "object.__class__") "__get__" = some (some (.builtin "getset_descriptor.__get__"))
  ht : PySem.W.takesIn K (.builtin "object.__class__") = some true
  hm : PySem.W.mroIn K CT (.type "object") = some true
def spTini (CT : Addr) : Sp := fun vs H Q _ => ∃ (x : Addr) (p h : Int) (r : Bool) (dx : Addr), vs = [.ref x, .int p, .int h, .bl r] ∧ H x = some (.ins CT dx []) ∧
  (∀ fs, fs.lookup ("place" : Str) = some (V.int p) → fs.lookup ("height" : Str) = some (V.int h) → fs.lookup ("reached" : Str) = some (V.bl r) → fs.lookup ("agrees" : Str) = none → Q .non (upd H x (.ins CT dx fs)))
theorem mk_tri {CT : Addr} {p h : Int} {r : Bool} {H1 : Hp} {Q : VK} {E : XK} (h2 : ∀ x H2, H1 x = none → Same H1 H2 → Tri CT H2 x p h r → Q (.ref x) H2) :
    Own.MkS CT (spTini CT) E [.int p, .int h, .bl r] H1 Q := ⟨fun x dx hx hdx hne => by
  refine ⟨x, p, h, r, dx, rfl, upd_same, fun fs l1 l2 l3 l4 => ⟨rfl, ?_⟩⟩
  rw [upd_upd]
  refine h2 x _ hx (fun b o e => ?_) ⟨dx, fs, upd_same, l1, l2, l3, l4⟩
  rw [upd_ne (ne_of_none e hx), upd_ne (ne_of_none e hdx)]
  exact e⟩
/-- what the trial says of the heights; none: no such index -/
def agr (xs : List Int) (p h : Int) (r : Bool) : Option Bool := if 0 ≤ p then (xs[p.toNat]?).map (fun z => if r then decide (z ≤ h) else decide (h < z)) else none
def NoPl (CP : Addr) (E : XK) (H : Hp) (p : Int) : Prop := ∀ H' d, Same H H' → H' d = none → E (.ref CP) (some d) (upd H' d (.xd [(("place" : Str), V.int p)]))
def spAgr (K : PySem.W.Frag) (CP CT : Addr) : Sp := fun vs H Q E => ∃ (x l : Addr) (p h : Int) (r : Bool) (xs : List Int), vs = [.ref x, .ref l] ∧ Tri CT H x p h r ∧ SqL K H l (xs.map V.int) ∧ p.natAbs < 2 ^ 1000 ∧
  (∀ b, agr xs p h r = some b → Q (.bl b) H) ∧ (agr xs p h r = none → NoPl CP E H p)
def spTnv (CT : Addr) : Sp := fun vs H Q _ => ∃ (x : Addr) (p h : Int) (r : Bool), vs = [.ref x] ∧ Tri CT H x p h r ∧ ∀ y H', H y = none → Same H H' → Tri CT H' y p h (!r) → Q (.ref y) H'
def spTeq (CT : Addr) : Sp := fun vs H Q _ => ∃ (a : Addr) (p h : Int) (r : Bool) (b : Addr), vs = [.ref a, .ref b] ∧ Tri CT H a p h r ∧
  ((∃ p' h' r', Tri CT H b p' h' r' ∧ Q (.bl (decide (p = p') && (decide (h = h') && decide (r = r')))) H) ∨ (∃ xs, H b = some (.tup xs) ∧ Q (.bl false) H))
def triTxt (p h : Int) (r : Bool) : Str := (((Str.empty ++ Str.ofString (toString p)) ++ (" " : Str)) ++ Str.ofString (toString h)) ++ (if r then (" reached" : Str) else (" missed" : Str))
def spTst (CT : Addr) : Sp := fun vs H Q _ => ∃ (a : Addr) (p h : Int) (r : Bool), vs = [.ref a] ∧ Tri CT H a p h r ∧ p.natAbs < 2 ^ 1000 ∧ h.natAbs < 2 ^ 1000 ∧ Q (.str (triTxt p h r)) H
section
variable {P : Program} {w : World} {K : PySem.W.Frag} {mg : Str → Option Value} {base : Heap} {CP CT : Addr}
theorem kit_ownT : PySem.W.kitOne K (.ref CT) (.ref CT) = some true := by
  unfold PySem.W.kitOne
  rw [if_pos (beq_self_eq_true _)]
theorem scTini : FnScope ["self", "place", "height", "reached"] ["self", "place", "height", "reached"] (defScope sTini) := ⟨rfl, rfl, rfl, by decide +kernel, rfl, by decide +kernel, by decide +kernel⟩
theorem ok_tini {f : Addr} {fd : FuncData} (F : Fun K "__init__" "Trial.__init__" sTini f fd) (T : TriTxt K mg CT) : FnOk P w K mg base CX0 1 f fd ["self", "place", "height", "reached"] (spTini CT) := by
  refine F.ok scTini (fun vs H Q E h => ?_) (fun cdv A outer s H vs Q E hr h => ?_)
  · obtain ⟨x, p, h, r, dx, rfl, _⟩ := h
    rfl
  · obtain ⟨x, p, h, r, dx, rfl, hx, k⟩ := h
    refine ⟨_, (pss_cons (ps_fld (pv 0) (pv 1) rfl)
      (pss_cons (ps_fld (pv 0) (pv 2) rfl)
      (pss_one (ps_fld (pv 0) (pv 3) rfl)))), ?_⟩
    refine ⟨_, rfl, _, rfl, x, CT, dx, _, rfl, hx, T.cl, T.nP, by show 0 < 1000; decide, ?_⟩
    refine ⟨_, rfl, _, rfl, x, CT, dx, _, rfl, upd_same, T.cl, T.nH, by show 1 < 1000; decide, ?_⟩
    refine ⟨_, rfl, _, rfl, x, CT, dx, _, rfl, upd_same, T.cl, T.nR, by show 2 < 1000; decide, ?_⟩
    rw [upd_upd, upd_upd]
    exact k _ rfl rfl rfl rfl
theorem scTnv : FnScope ["self"] ["self"] (defScope sTnv) := ⟨rfl, rfl, rfl, by decide +kernel, rfl, by decide +kernel, by decide +kernel⟩
theorem ok_tnv {f fI : Addr} {fd : FuncData} (F : Fun K "__invert__" "Trial.__invert__" sTnv f fd) (MK : Mk K CT fI) (GI : FnR P w K mg base CX0 1 fI (spTini CT)) (T : TriTxt K mg CT) : FnOk P w K mg base CX0 3 f fd ["self"] (spTnv CT) := by
  refine F.ok scTnv (fun vs H Q E h => ?_) (fun cdv A outer s H vs Q E hr h => ?_)
  · obtain ⟨x, p, h, r, rfl, _⟩ := h
    rfl
  · obtain ⟨x, p, h, r, rfl, ⟨dx, fs, hx, l1, l2, l3, l4⟩, k⟩ := h
    refine ⟨_, (pss_one (ps_ret (Own.pe_makeS (E := fun _ => E) MK GI hr rfl T.tri (passS pass0) (pa_cons (pe_fld (pv 0) rfl) (pa_cons (pe_fld (pv 0) rfl) (pa_cons (pe_not (pe_fld (pv 0) rfl)) pa_nil)))))), ?_⟩
    refine ⟨_, rfl, x, CT, dx, fs, _, rfl, hx, T.cl, T.nP, l1, _, rfl, x, CT, dx, fs, _, rfl, hx, T.cl, T.nH, l2, _, rfl, x, CT, dx, fs, _, rfl, hx, T.cl, T.nR, l3, _, rfl, ?_⟩
    exact mk_tri k
theorem scTeq : FnScope ["self", "other"] ["self", "other"] (defScope sTeq) := ⟨rfl, rfl, rfl, by decide +kernel, rfl, by decide +kernel, by decide +kernel⟩
theorem ok_teq {f : Addr} {fd : FuncData} (F : Fun K "__eq__" "Trial.__eq__" sTeq f fd) (T : TriTxt K mg CT) (kI : PySem.W.kitOne K (.type "tuple") (.ref CT) = some false) : FnOk P w K mg base CX0 1 f fd ["self", "other"] (spTeq CT) := by
  refine F.ok scTeq (fun vs H Q E h => ?_) (fun cdv A outer s H vs Q E hr h => ?_)
  · obtain ⟨a, p, h, r, b, rfl, _⟩ := h
    rfl
  · obtain ⟨a, p, h, r, b, rfl, ⟨dx, fs, hx, l1, l2, l3, l4⟩, k⟩ := h
    refine ⟨_, (pss_one (ps_ret (pe_and (pe_callB call_isi (by rfl) T.isi (by decide +kernel) (pa_cons (pv 1) (pa_cons (pe_glob (v := .ref CT) rfl T.tri rfl) pa_nil))) (pe_and (pe_cmpR op_eq (pe_fld (pv 0) rfl) (pe_fld (pv 1) rfl) (nomark _)) (pe_and (pe_cmpR op_eq (pe_fld (pv 0) rfl) (pe_fld (pv 1) rfl) (nomark _)) (pe_one (pe_cmpR op_eq (pe_fld (pv 0) rfl) (pe_fld (pv 1) rfl) (nomark _)))))))), ?_⟩
    rcases k with ⟨p', h', r', ⟨dy, gs, hy, m1, m2, m3, m4⟩, q⟩ | ⟨xs, hb, q⟩
    · refine ⟨_, rfl, V.ref b, V.ref CT, .ref CT, .ref CT, true, rfl, .own _, .base (.ins hy T.cl T.ha T.hn T.ht T.hm), kit_ownT, ?_⟩
      refine ⟨true, rfl, if_t rfl ⟨_, rfl, a, CT, dx, fs, _, rfl, hx, T.cl, T.nP, l1, _, rfl, b, CT, dy, gs, _, rfl, hy, T.cl, T.nP, m1, rfl, ?_⟩⟩
      refine ⟨_, rfl, ?_⟩
      by_cases c1 : p = p'
      · rw [if_pos (by simp [c1])]
        refine ⟨_, rfl, a, CT, dx, fs, _, rfl, hx, T.cl, T.nH, l2, _, rfl, b, CT, dy, gs, _, rfl, hy, T.cl, T.nH, m2, rfl, ?_⟩
        refine ⟨_, rfl, ?_⟩
        by_cases c2 : h = h'
        · rw [if_pos (by simp [c2])]
          refine ⟨_, rfl, a, CT, dx, fs, _, rfl, hx, T.cl, T.nR, l3, _, rfl, b, CT, dy, gs, _, rfl, hy, T.cl, T.nR, m3, rfl, ?_⟩
          have e : decide (V.bl r = V.bl r') = decide (r = r') := by cases r <;> cases r' <;> rfl
          rw [e]
          rw [decide_eq_true c1, decide_eq_true c2] at q
          exact q
        · rw [if_neg (by simp [c2])]
          rw [decide_eq_true c1, decide_eq_false c2] at q
          exact q
      · rw [if_neg (by simp [c1])]
        rw [decide_eq_false c1] at q
        exact q
    · refine ⟨_, rfl, V.ref b, V.ref CT, .type "tuple", .ref CT, false, rfl, .own _, .base (.tup hb), kI, ?_⟩
      exact ⟨_, rfl, if_f rfl q⟩
theorem scTst : FnScope ["self"] ["self"] (defScope sTst) := ⟨rfl, rfl, rfl, by decide +kernel, rfl, by decide +kernel, by decide +kernel⟩
theorem ok_tst {f : Addr} {fd : FuncData} (F : Fun K "__str__" "Trial.__str__" sTst f fd) (T : TriTxt K mg CT) : FnOk P w K mg base CX0 1 f fd ["self"] (spTst CT) := by
  refine F.ok scTst (fun vs H Q E h => ?_) (fun cdv A outer s H vs Q E hr h => ?_)
  · obtain ⟨a, p, h, r, rfl, _⟩ := h
    rfl
  · obtain ⟨a, p, h, r, rfl, ⟨dx, fs, ha, l1, l2, l3, l4⟩, sp, sh, k⟩ := h
    have hp' : p.natAbs.log2 < 1920 := log_of (by decide) (Nat.lt_of_lt_of_le sp (Nat.pow_le_pow_right (by decide) (by decide)))
    have hh' : h.natAbs.log2 < 1920 := log_of (by decide) (Nat.lt_of_lt_of_le sh (Nat.pow_le_pow_right (by decide) (by decide)))
    have zp := int_text_length_le (k := 1920) (by decide) hp'
    have zh := int_text_length_le (k := 1920) (by decide) hh'
    refine ⟨_, (pss_cons (ps_if (pt_val (pe_fld (pv 0) rfl)) (pss_one (ps_ret (pe_joined (.cons (pe_fmt (pe_fld (pv 0) rfl)) (.cons pe_str (.cons (pe_fmt (pe_fld (pv 0) rfl)) (.cons pe_str .nil))))))) pss_nil) (pss_one (ps_ret (pe_joined (.cons (pe_fmt (pe_fld (pv 0) rfl)) (.cons pe_str (.cons (pe_fmt (pe_fld (pv 0) rfl)) (.cons pe_str .nil)))))))), ?_⟩
    have e0 : (Str.empty : Str).length ≤ 10 := by decide +kernel
    have e1 : (" " : Str).length ≤ 10 := by decide +kernel
    have e2 : (" reached" : Str).length ≤ 10 := by decide +kernel
    have e3 : (" missed" : Str).length ≤ 10 := by decide +kernel
    have z1 : (Str.empty ++ Str.ofString (toString p)).length ≤ 1950 := by rw [Str.length_append, PySem.ofString_length]; omega
    have z2 : ((Str.empty ++ Str.ofString (toString p)) ++ (" " : Str)).length ≤ 1960 := by rw [Str.length_append]; omega
    have z3 : (((Str.empty ++ Str.ofString (toString p)) ++ (" " : Str)) ++ Str.ofString (toString h)).length ≤ 3950 := by rw [Str.length_append, PySem.ofString_length]; omega
    have z4 : (triTxt p h r).length ≤ 4010 := by unfold triTxt; rw [Str.length_append]; cases r <;> simp only [if_true, Bool.false_eq_true, if_false] <;> omega
    have big : ∀ n : Nat, n ≤ 4010 → n ≤ sizeLine := fun n h => by rw [sizeLine_eq]; omega
    cases r with
    | true =>
      refine ⟨_, rfl, a, CT, dx, fs, _, rfl, ha, T.cl, T.nR, l3, _, rfl, if_t rfl ?_⟩
      refine ⟨_, rfl, a, CT, dx, fs, _, rfl, ha, T.cl, T.nP, l1, .inr ⟨p, rfl, hp', Str.ofString (toString p), rfl, big _ (by omega), ?_⟩⟩
      refine ⟨_, rfl, big _ (by omega), _, rfl, a, CT, dx, fs, _, rfl, ha, T.cl, T.nH, l2, .inr ⟨h, rfl, hh', Str.ofString (toString h), rfl, big _ (by omega), ?_⟩⟩
      exact ⟨_, rfl, big _ z4, k⟩
    | false =>
      refine ⟨_, rfl, a, CT, dx, fs, _, rfl, ha, T.cl, T.nR, l3, _, rfl, if_f rfl ?_⟩
      refine ⟨_, rfl, a, CT, dx, fs, _, rfl, ha, T.cl, T.nP, l1, .inr ⟨p, rfl, hp', Str.ofString (toString p), rfl, big _ (by omega), ?_⟩⟩
      refine ⟨_, rfl, big _ (by omega), _, rfl, a, CT, dx, fs, _, rfl, ha, T.cl, T.nH, l2, .inr ⟨h, rfl, hh', Str.ofString (toString h), rfl, big _ (by omega), ?_⟩⟩
      exact ⟨_, rfl, big _ z4, k⟩
end
end Law

/-! for x in xs, xs a list or a tuple; [*xs, y]. -/
namespace ItSeq
open PySem PySem.Spec PyProof.Rows L2
/-- a list or a tuple -/
def Sq (K : PySem.W.Frag) (H : Hp) (a : Addr) (xs : List V) : Prop := SqL K H a xs ∨ SqT K H a xs
theorem sqT_same {K : PySem.W.Frag} {H H' : Hp} {a : Addr} {xs : List V} (h : SqT K H a xs) (s : Same H H') : SqT K H' a xs := by
  rcases h with (h | ⟨o, h⟩) | h
  · exact .inl (.inl (s _ _ h))
  · exact .inl (.inr ⟨o, s _ _ h⟩)
  · exact .inr h
theorem sqL_same {K : PySem.W.Frag} {H H' : Hp} {a : Addr} {xs : List V} (h : SqL K H a xs) (s : Same H H') : SqL K H' a xs := by
  rcases h with (h | ⟨o, h⟩) | h
  · exact .inl (.inl (s _ _ h))
  · exact .inl (.inr ⟨o, s _ _ h⟩)
  · exact .inr h
theorem Sq.same {K : PySem.W.Frag} {H H' : Hp} {a : Addr} {xs : List V} (h : Sq K H a xs) (s : Same H H') : Sq K H' a xs := h.imp (sqL_same · s) (sqT_same · s)
/-- whichever it is, it is walked alike as long as all stands -/
def iSeq (K : PySem.W.Frag) (tl : TE) : TI := fun σ H R => tl σ H fun x H1 => ∃ a xs, x = .ref a ∧ Sq K H1 a xs ∧ ∀ J, Walk J xs.length (fun H => Same H1 H) (YAt xs) → R J H1
theorem pi_seq {X : Cx} {tg l : Expr} {tl : TE} (hl : PE X l tl) : PI X tg l (iSeq X.K tl) := by
  refine ⟨fun pins s σ H R I h => ?_⟩
  refine thn (hl.run pins s σ H _ I h) fun v s1 ⟨x, H1, I1, r1, a, xs, e, hq, q⟩ => ?_
  subst e
  cases r1
  have fp : ∀ b ∈ [s1.heap.objs.size], FpOk X pins H1 b := fun b hb => by
    rw [List.mem_singleton] at hb
    subst hb
    exact I1.fpOk (Nat.le_refl _) (I1.hok.fresh (Nat.le_refl _))
  rcases hq with hq | hq
  · obtain ⟨its, rv, p, hz⟩ := I1.list hq
    exact wpAny_pyIter_list p.isList ⟨s1.heap.objs.size, [s1.heap.objs.size], _, _, H1, rfl, I1.kept (t' := s1.toks) fun b o e => Heap.get?_push_of_some _ e, turn_list a _, ⟨_, Heap.get?_push_size _ rfl, rfl, rfl⟩, fp,
      q _ (walk_list.mono (fun _ s => sqL_same hq s) fun _ _ _ _ _ _ y => y)⟩
  · obtain ⟨its, rv, p, hz⟩ := I1.tuple hq
    exact wpAny_pyIter_tuple (show s1.heap.IsTuple a its.toArray from p) ⟨s1.heap.objs.size, [s1.heap.objs.size], _, _, H1, rfl, I1.kept (t' := s1.toks) fun b o e => Heap.get?_push_of_some _ e, turn_tuple a _, ⟨_, Heap.get?_push_size _ rfl, rfl, rfl⟩, fp,
      q _ (walk_tup.mono (fun _ s => sqT_same hq s) fun _ _ _ _ _ _ y => y)⟩
end ItSeq
/-! enumerate(xs, start=k), xs a list. -/
namespace EnumS
open PySem PySem.Spec PyProof.Rows L2 ItSeq
section
variable {M : Model} {A : Around} {E : Value → Shared → Prop} {s : Shared} {env : Env}
theorem callWith_type_kwB {pos : Pos} {T : String} {first : List Value} {args : List (Bool × Sem Value)} {keywords : List (Option Str × Sem Value)} {Q : Value → Shared → Prop}
    (hplain : args.any (·.1) = false) (hkw : keywords.any (·.1.isNone) = false)
    (h : wpAny M A (evalArgs (.type T) true args keywords) (fun a s₁ => wpAny M A (call (.type T) (first ++ a.pos) a.kw) Q E s₁) E s) :
    wpAny M A (callWith pos (.type T) first args keywords) Q E s := by
  unfold callWith
  refine wpAny_bind (wpAny_holding (wpAny_mono h (fun a s₁ h₁ => wpAny_bind (wpAny_standAt ?_)) fun _ _ x => x))
  simp only [hplain, hkw, Bool.or_false]
  refine wpAny_bind (wpAny_pure ?_)
  exact wpAny_bind (wpAny_mono h₁ (fun r s₂ hr => wpAny_bind (wpAny_holding (wpAny_point (wpAny_pure hr)))) fun _ _ x => x)
theorem callWith_tkw {pos : Pos} {T : String} {e : Expr} {rest : List Expr} {kws : List Keyword} {Q : Value → Shared → Prop}
    (h : wpAny M A (spliced (backTo pos (starEach (e :: rest) env))) (fun vs s₁ => wpAny M A (evalAll ((backToKw pos (keywordEach kws env)).map (·.2)))
      (fun kvs s₂ => wpAny M A (call (.type T) vs (((backToKw pos (keywordEach kws env)).filterMap (·.1)).zip kvs)) Q E s₂) E s₁) E s)
    (he : backTo pos (starEach (e :: rest) env) = (false, eval e env) :: backTo pos (starEach rest env) := by rfl)
    (hplain : (backTo pos (starEach (e :: rest) env)).any (·.1) = false := by rfl)
    (hall : (backToKw pos (keywordEach kws env)).all (·.1.isSome) = true := by rfl)
    (hkw : (backToKw pos (keywordEach kws env)).any (·.1.isNone) = false := by rfl) :
    wpAny M A (callWith pos (.type T) [] (backTo pos (starEach (e :: rest) env)) (backToKw pos (keywordEach kws env))) Q E s := by
  refine callWith_type_kwB hplain hkw ?_
  rw [he] at h ⊢
  exact evalArgs_kwB hall h
end
/-- the list at a, each item in a new pair, the count from c on -/
def Ites (K : PySem.W.Frag) (a : Addr) (c : Int) : It :=
  ⟨fun i H => ∃ (xs : List V) (x : V), SqL K H a xs ∧ xs[i]? = some x, fun i H v H' => ∃ T x, v = .ref T ∧ H T = none ∧ H' = upd H T (.tup [.int (c + (i : Nat)), x]) ∧ ∀ xs, SqL K H a xs → xs[i]? = some x, fun i H => ∃ xs : List V, SqL K H a xs ∧ xs.length = i⟩
theorem turn_enumS {P : Program} {w : World} {K : PySem.W.Frag} {elts : List Expr} {kk : Nat} {tpos : Pos} (a e it : Addr) (c : Int) :
    Turn P w K (.Tuple elts kk tpos) (Ites K a c) [e, it] e (fun i h => (∃ old, IsEnum h e it (c + ((i : Nat) : Int)) old) ∧ h.IsListIter it a i ∧ e ≠ it ∧ e ≠ a ∧ a ≠ it) where
  mem := by simp
  obj := fun i h st b hb => by
    obtain ⟨⟨old, he⟩, ⟨o, ho, hc, hd⟩, _⟩ := st
    have e' : b = e ∨ b = it := by simpa using hb
    rcases e' with z | z
    · rw [z]; exact ⟨_, he, fun v q => nomatch q⟩
    · rw [z]; exact ⟨o, ho, fun v q => by rw [hd] at q; cases q⟩
  keep := fun i h h' st k => let ⟨⟨old, he⟩, hi, hne⟩ := st; ⟨⟨old, k e (by simp) _ he⟩, hi.at fun o q => k it (by simp) o q, hne⟩
  item := by
    intro X hP hw hK hc i pins s σ H E I hf st hg
    subst hP hw hK
    obtain ⟨⟨old, he⟩, hit, hne, hea, hai⟩ := st
    obtain ⟨xs, x, hq, hx⟩ := hg
    obtain ⟨its, rv, p, hz⟩ := I.list hq
    obtain ⟨u, hu, ru⟩ := rv.get hx
    have hel : e < s.heap.objs.size := Heap.lt_size he
    have hil : it < s.heap.objs.size := by obtain ⟨_, q, _⟩ := hit; exact Heap.lt_size q
    have hlt : i < its.toArray.size := by
      have := (List.getElem?_eq_some_iff.mp hu).1
      simpa using this
    have D := Draws.list (prog := X.prog) (w := X.w) (A := X.A.in1) (I.ok.hd hc) it a hai its.toArray
    refine wpAny_pyNext_enum_itemC D he ⟨hit, p.isList⟩ hlt hne (by simp [hne, hea]) fun y h' tk hy ho hst hT hsz hk => ?_
    have ey : y = u := by
      have z : its.toArray[i]? = some u := by simpa using hu
      rw [z] at hy
      exact (Option.some.inj hy).symm
    subst ey
    refine ⟨_, rfl, wpAny_letOwnedTupleGo_enum (s := { s with heap := h', toks := tk + 1 }) ho fun h'' he' sb => ?_⟩
    have hT2 : h''.get? s.heap.objs.size = some { cls := .type "tuple", data := .seq #[.int (c + (i : Nat)) tk, y] } := (sb.2 _ (Nat.ne_of_gt hel)).trans hT
    have new : ObjOk X.prog X.w (upd H s.heap.objs.size (.tup [.int (c + (i : Nat)), x])) h'' s.heap.objs.size (.tup [.int (c + (i : Nat)), x]) :=
      ⟨by show 2 ≤ sizeLine; decide, [.int (c + (i : Nat)) tk, y], .cons ⟨_, rfl⟩ (.cons ru .nil), ⟨_, hT2, rfl, _, rfl⟩⟩
    have I1 : Inv X pins σ (upd H s.heap.objs.size (.tup [.int (c + (i : Nat)), x])) { s with heap := h'', toks := tk + 1 } :=
      I.turnedNew (ch := [e, it]) (fun b ob hb q => (sb.2 b (fun z => hb (by simp [z]))).trans (hk b ob (fun z => hb (by simp [z])) (fun z => hb (by simp [z])) q)) hf (Nat.le_refl _) new
    refine ⟨.ref s.heap.objs.size, _, I1, rfl, ⟨_, x, rfl, I.hok.fresh (Nat.le_refl _), rfl, fun ys hy => by rw [I.list_inj hy hq]; exact hx⟩, ⟨⟨y, ?_⟩, hst.1.at fun o q => (sb.2 it (Ne.symm hne)).trans q, hne, hea, hai⟩, fun b hb => ?_⟩
    · have e1 : c + ((i + 1 : Nat) : Int) = c + (i : Int) + 1 := by omega
      rw [e1]; exact he'
    · have hb' : b < s.heap.objs.size := by
        have e' : b = e ∨ b = it := by simpa using hb
        rcases e' with z | z
        · rw [z]; exact hel
        · rw [z]; exact hil
      rw [upd_ne (Nat.ne_of_lt hb')]
      exact (hf b hb).1
  done := by
    intro X hP hw hK hc i pins s σ H E I hf st hg
    subst hP hw hK
    obtain ⟨⟨old, he⟩, hit, hne, hea, hai⟩ := st
    obtain ⟨xs, hq, hx⟩ := hg
    obtain ⟨its, rv, p, hz⟩ := I.list hq
    obtain ⟨f0, f1, f2, f3, f4, f5⟩ := hf it (by simp)
    have hl := rv.length
    have D := Draws.list (prog := X.prog) (w := X.w) (A := X.A.in1) (I.ok.hd hc) it a hai its.toArray
    have ei : i = its.toArray.size := by simp; omega
    refine wpAny_pyNext_enum_endD D he ⟨by rw [← ei]; exact hit, p.isList⟩ fun h' eb => ⟨rfl, I.turned (t' := s.toks) (fun b o hb q => eb b o hb q) f0 f1 f3 f4 f5⟩
  self := fun A i s Q E st h => let ⟨⟨_, he⟩, _⟩ := st; wpAny_pyIter_enum he h
/-- a list enumerated from c on: it is walked alike as long as all stands -/
def iEnC (K : PySem.W.Frag) (ta tk : TA) : TI := fun σ H R => ta σ H fun vs H1 => tk σ H1 fun zs H2 => ∃ a xs c, vs = [.ref a] ∧ zs = [.int c] ∧ -(2 ^ 63) ≤ c ∧ c < 2 ^ 63 ∧ SqL K H2 a xs ∧ ∀ J, Walk J xs.length (fun H => Same H2 H) (YPair (fun i => some (.int (c + (i : Nat)))) (fun i => xs[i]?)) → R J H2
theorem pi_enC {X : Cx} {e : Expr} {kws : List Keyword} {ta tk : TA} {p pos tpos : Pos} {elts : List Expr} {kk : Nat} (hg : Gl X "enumerate") (hm : X.mg "enumerate" = none) (ha : PA X [e] ta) (hk : PK X kws tk)
    (he : backTo pos (starEach [e] X.env) = (false, eval e X.env) :: backTo pos (starEach [] X.env) := by rfl) (hpl : (backTo pos (starEach [e] X.env)).any (·.1) = false := by rfl)
    (hall : (backToKw pos (keywordEach kws X.env)).all (·.1.isSome) = true := by rfl) (hnone : (backToKw pos (keywordEach kws X.env)).any (·.1.isNone) = false := by rfl) (hks : (backToKw pos (keywordEach kws X.env)).filterMap (·.1) = [Str.ofString "start"] := by rfl) :
    PI X (.Tuple elts kk tpos) (.Call (.Name "enumerate" p) [e] kws pos) (iEnC X.K ta tk) := by
  refine ⟨fun pins s σ H R I h => ?_⟩
  refine wpAny_Call_Name_kw (ld_blt I hg hm boot_enumerate ?_ (by decide) (by decide))
  refine callWith_tkw (thn (ha.run pos pins s σ H _ I h) fun us s0 ⟨vs, H1, I1, r1, q1⟩ => thn (hk.run pos pins s0 σ H1 _ I1 q1) fun ws s1 ⟨zs, H2, I2, r2, q2⟩ => ?_) he hpl hall hnone
  rw [hks]
  obtain ⟨a, xs, c, ex, ez, c0, c1, hq, q⟩ := q2
  subst ex
  subst ez
  cases r1 with
  | cons r rr =>
    cases rr
    cases r
    obtain ⟨u, rfl, ru⟩ := r2.one
    obtain ⟨tt, rfl⟩ := ru
    have fp : ∀ b ∈ [s1.heap.objs.size + 1, s1.heap.objs.size], FpOk X pins H2 b := fun b hb => by
      have e' : b = s1.heap.objs.size + 1 ∨ b = s1.heap.objs.size := by simpa using hb
      have hle : s1.heap.objs.size ≤ b := by
        rcases e' with z | z
        · rw [z]; exact Nat.le_add_right _ _
        · rw [z]; exact Nat.le_refl _
      exact I2.fpOk hle (I2.hok.fresh hle)
    obtain ⟨its, rv, p', hz⟩ := I2.list hq
    have hlt : a < s1.heap.objs.size := by
      obtain ⟨o, n, z, _⟩ := p'
      exact Heap.lt_size z
    show wpAny _ _ (call (.type "enumerate") [.ref a] [(Str.ofString "start", .int c tt)]) _ _ _
    refine enum_begins_start (begins_list a its.toArray) p'.isList c0 c1 fun h' he hit hsz hk => wpAny_pyIter_enum he ?_
    have I3 : Inv X pins σ H2 { s1 with heap := h' } := I2.kept (t' := s1.toks) hk
    refine ⟨s1.heap.objs.size + 1, [s1.heap.objs.size + 1, s1.heap.objs.size], _, _, H2, rfl, I3, turn_enumS a (s1.heap.objs.size + 1) s1.heap.objs.size c, ⟨⟨.none, by rw [show c + ((0 : Nat) : Int) = c by omega]; exact he⟩, ⟨_, hit, rfl, rfl⟩, Nat.succ_ne_self _, Ne.symm (Nat.ne_of_lt (Nat.lt_succ_of_lt hlt)), Nat.ne_of_lt hlt⟩, fp, q _ ⟨fun i H hi s => ⟨xs, xs[i], sqL_same hq s, by simp [hi]⟩, fun H s => ⟨xs, sqL_same hq s, rfl⟩, fun i H v H' _ s y => ?_⟩⟩
    obtain ⟨T, x, h1, h2, h3, h4⟩ := y
    exact ⟨T, .int (c + (i : Nat)), x, h1, h2, h3, rfl, h4 xs (sqL_same hq s)⟩
end EnumS
/-! {x} of an instance of an own class with its own __str__, in an f-string. -/
namespace Own
open PySem PySem.Spec PyProof.Rows L2
section
variable {X : Cx} {CX : CXT} {k : Nat} {C g : Addr} {sp : Sp} {E : XK}
theorem pe_fmtO {e : Expr} {te : TE} {pos : Pos} (F : FnR X.prog X.w X.K X.mg X.base CX k g sp) (hfm : PySem.W.findIn X.K (.ref C) "__format__" = some (some (.builtin "object.__format__"))) (hm : PySem.W.mroIn X.K C (.type "object") = some true)
    (hs : PySem.W.findIn X.K (.ref C) "__str__" = some (some (.ref g))) (hf : PySem.W.isFn X.K (.ref g) = true)
    (hr : Room (k + 1) X.A) (hx : Passes CX X E) (he : PE X e te) : PE X (.FormattedValue e (-1) none pos) (fun σ H Q => te σ H fun x H1 => rStrO C sp E [x] H1 Q) := by
  refine ⟨fun pins s σ H Q I h => ?_⟩
  refine wpAny_FormattedValue_plain (thn (he.run pins s σ H _ I h) fun v s1 hv => ?_)
  obtain ⟨x, H1, I1, r1, a, dx, fs, hxs, ha, hsp⟩ := hv
  cases hxs
  cases r1
  obtain ⟨mA, J, _⟩ := ins_get I1.hok ha
  obtain ⟨od, J, _⟩ := J.look
  obtain ⟨m, hF⟩ := I1.fr
  refine PySem.W.kfo_fieldS ?_ (I1.ok.mod.kin.keeps hF.keep) J hfm hm hs hf (wpAny_mono (run_at F ?_ ?_ hx (I1.tok (s1.toks + 1)) (us := [.ref a]) (vs := [.ref a]) (.cons rfl .nil) hsp) (fun u s' z => ?_) fun _ _ z => z)
  · have := hr.un
    show X.A.units + 1 < _
    omega
  · exact Room.in1 (k := k) hr
  · exact I1.env0.frames
  · obtain ⟨v, H', I', rv, y, rfl, q⟩ := z
    obtain ⟨t, rfl⟩ := rv
    exact ⟨.str y, H', I', ⟨t, rfl⟩, q⟩
end
end Own

/-! Texts of numbers, lines of trials. -/
namespace Law
open PySem PySem.Spec PyProof.Rows L2 SX NumText
/-- the signs of a number -/
def iL : Int → List Nat
  | .ofNat n => TL.numL n
  | .negSucc n => 45 :: TL.numL (n + 1)
theorem iL_str (n : Int) : Str.ofString (toString n) = S (iL n) := by
  refine TL.ext_tl ?_
  cases n with
  | ofNat n => exact TL.tl_num n
  | negSucc n =>
    rw [TL.tl_ofString, show toString (Int.negSucc n) = "-" ++ toString (n + 1) from rfl, String.toList_append, List.map_append]
    have e := TL.tl_num (n + 1)
    rw [TL.tl_ofString] at e
    have e2 : toString (((n + 1 : Nat) : Int)) = toString (n + 1) := rfl
    rw [e2] at e
    rw [e]
    rfl
theorem numL_le {m : Nat} (h : m < 10 ^ 40) : (TL.numL m).length ≤ 40 := TL.numL_len (by decide) h
theorem iL_len {n : Int} (h : n.natAbs < 10 ^ 40) : (iL n).length ≤ 41 := by
  cases n with
  | ofNat m => have := numL_le (m := m) h; show (TL.numL m).length ≤ 41; omega
  | negSucc m => have := numL_le (m := m + 1) h; show (TL.numL (m + 1)).length + 1 ≤ 41; omega
theorem iL_mem {n : Int} {c : Nat} (h : c ∈ iL n) : c = 45 ∨ (48 ≤ c ∧ c ≤ 57) := by
  cases n with
  | ofNat m => exact .inr (TL.numL_digits m c h)
  | negSucc m =>
    rcases List.mem_cons.mp h with h | h
    · exact .inl h
    · exact .inr (TL.numL_digits (m + 1) c h)
theorem iL_ne (n : Int) : iL n ≠ [] := by
  cases n with
  | ofNat m => exact TL.numL_ne m
  | negSucc m => exact List.cons_ne_nil _ _
theorem iL_int {n : Int} (h : n.natAbs < 10 ^ 40) : intText? (S (iL n)) = some n := by
  have l := iL_len h
  cases n with
  | ofNat m =>
    have e := intText_digits (x := S (iL (.ofNat m))) (TL.numL_digits m) (TL.numL_ne m) (by rw [S_len]; omega)
    rw [e]
    show some (((digitsVal (TL.numL m) : Nat) : Int)) = _
    rw [TL.numL_val]
    rfl
  | negSucc m =>
    have e := intText_neg (x := S (iL (.negSucc m))) (cs := TL.numL (m + 1)) rfl (TL.numL_digits (m + 1)) (TL.numL_ne (m + 1)) (by rw [S_len]; omega)
    rw [e]
    rw [TL.numL_val]
    rfl
/-- the first digit of a number that is not 0 -/
theorem numL_head : ∀ (m : Nat), 0 < m → ∃ c r, TL.numL m = c :: r ∧ 49 ≤ c ∧ c ≤ 57 := fun m => by
  induction m using Nat.strongRecOn with
  | _ m ih =>
    intro h
    by_cases k : m < 10
    · exact ⟨48 + m, [], TL.numL_lt k, by omega, by omega⟩
    · obtain ⟨c, r, e, b⟩ := ih (m / 10) (by omega) (by omega)
      exact ⟨c, r ++ [48 + m % 10], by rw [TL.numL_step (by omega), e]; rfl, b⟩
theorem starts_one {c d : Nat} {r : List Nat} : Txt.startswith (S (c :: r)) (S [d]) = Txt.startswith (S [c]) (S [d]) := by
  have e : S (c :: r) = S [c] ++ S r := (S_cat [c] r).symm
  rw [e]
  exact PySem.W.KAf.starts_left (Nat.le_refl _)
/-- the signs of a line -/
def codes (s : String) : List Nat := s.toList.map Char.toNat
theorem codes_str (s : String) : Str.ofString s = S (codes s) := TL.ext_tl (TL.tl_ofString s)
abbrev LRow := Int × Int × Bool
def wordL (r : Bool) : List Nat := if r = true then codes "reached" else codes "missed"
def partsL (q : LRow) : List (List Nat) := [codes "trial", iL q.1, iL q.2.1, wordL q.2.2]
def lineL (q : LRow) : List Nat := TL.joinL [32] (partsL q)
def textL (rows : List LRow) : List Nat := TL.joinL [10] (rows.map lineL)
def RowOk (q : LRow) : Prop := q.1.natAbs < 10 ^ 40 ∧ q.2.1.natAbs < 10 ^ 40
theorem parts_no {q : LRow} {c : Nat} (h : c = 32 ∨ c = 10) : ∀ p ∈ partsL q, c ∉ p := fun p hp hc => by
  simp only [partsL, List.mem_cons, List.not_mem_nil, or_false] at hp
  have w1 : ∀ c ∈ codes "trial", c ≠ 32 ∧ c ≠ 10 := by decide
  have w2 : ∀ c ∈ codes "reached", c ≠ 32 ∧ c ≠ 10 := by decide
  have w3 : ∀ c ∈ codes "missed", c ≠ 32 ∧ c ≠ 10 := by decide
  rcases hp with rfl | rfl | rfl | rfl
  · have := w1 c hc; omega
  · have := iL_mem hc; omega
  · have := iL_mem hc; omega
  · have w : ∀ c ∈ wordL q.2.2, c ≠ 32 ∧ c ≠ 10 := by
      unfold wordL
      split
      · exact w2
      · exact w3
    have := w c hc
    omega
theorem line_split (q : LRow) : TL.spl [32] 0 [] (lineL q) = partsL q := spl_join (List.cons_ne_nil _ _) (parts_no (.inl rfl))
theorem line_no {q : LRow} : 10 ∉ lineL q := fun h => by
  have e : lineL q = codes "trial" ++ ([32] ++ (iL q.1 ++ ([32] ++ (iL q.2.1 ++ ([32] ++ wordL q.2.2))))) := rfl
  rw [e] at h
  have p := fun x hx => parts_no (q := q) (c := 10) (.inr rfl) x hx
  simp only [List.mem_append] at h
  rcases h with h | h | h | h | h | h | h
  · exact p _ (by simp [partsL]) h
  · cases h with | tail _ h => cases h
  · exact p _ (by simp [partsL]) h
  · cases h with | tail _ h => cases h
  · exact p _ (by simp [partsL]) h
  · cases h with | tail _ h => cases h
  · exact p _ (by simp [partsL]) h
theorem text_split {rows : List LRow} (h : rows ≠ []) : TL.spl [10] 0 [] (textL rows) = rows.map lineL := spl_join (by simpa using h) fun p hp => by
  obtain ⟨q, _, rfl⟩ := List.mem_map.mp hp
  exact line_no
theorem line_len {q : LRow} (h : RowOk q) : (lineL q).length ≤ 100 := by
  have e : lineL q = codes "trial" ++ ([32] ++ (iL q.1 ++ ([32] ++ (iL q.2.1 ++ ([32] ++ wordL q.2.2))))) := rfl
  rw [e]
  simp only [List.length_append]
  have a := iL_len h.1
  have b := iL_len h.2
  have w : (wordL q.2.2).length ≤ 7 := by unfold wordL; split <;> decide
  have t : (codes "trial").length = 5 := by decide
  simp only [List.length_singleton]
  omega
theorem text_len : ∀ {rows : List LRow}, (∀ q ∈ rows, RowOk q) → (textL rows).length ≤ 101 * rows.length
  | [], _ => Nat.zero_le _
  | [q], h => by have := line_len (h q List.mem_cons_self); show (lineL q).length ≤ 101; omega
  | q :: r :: rows, h => by
    have a := line_len (h q List.mem_cons_self)
    have b := text_len (rows := r :: rows) fun x hx => h x (List.mem_cons_of_mem _ hx)
    have e : (textL (q :: r :: rows)).length = (lineL q).length + (1 + (textL (r :: rows)).length) := by
      show (lineL q ++ ([10] ++ textL (r :: rows))).length = _
      rw [List.length_append, List.length_append]
      rfl
    rw [e]
    simp only [List.length_cons] at b ⊢
    omega
theorem line_ne (q : LRow) : lineL q ≠ [] := List.cons_ne_nil _ _
theorem text_ne : ∀ {rows : List LRow}, rows ≠ [] → textL rows ≠ []
  | [], h => (h rfl).elim
  | [q], _ => line_ne q
  | q :: r :: rows, _ => fun z => by
    have : lineL q ++ ([10] ++ textL (r :: rows)) = [] := z
    rw [List.append_eq_nil_iff] at this
    exact line_ne q this.1
end Law

/-! Lines of trials written and read. -/
namespace Law
open PySem PySem.Spec PyProof.Rows L2 SX NumText ItSeq
abbrev sIsn : Stmt := top 14
abbrev sItl : Stmt := top 13
abbrev sNl : Stmt := top 12
abbrev sRd : Stmt := top 11
abbrev sWr : Stmt := top 10
def spIsn : Sp := fun vs H Q _ => ∃ n : Int, vs = [.str (S (iL n))] ∧ n.natAbs < 10 ^ 40 ∧ ∀ H', Same H H' → Q (.bl true) H'
/-- the words of a line -/
def WdsAt (H : Hp) (p : Addr) (q : LRow) : Prop := H p = some (.lst ((partsL q).map fun x => V.str (S x)))
def spItl : Sp := fun vs H Q _ => ∃ (p : Addr) (q : LRow), vs = [.ref p] ∧ WdsAt H p q ∧ RowOk q ∧ ∀ H', Same H H' → Q (.bl true) H'
def LnsAt (H : Hp) (p : Addr) (rows : List LRow) : Prop := ∃ ts : List Addr, H p = some (.lst (ts.map V.ref)) ∧ ts.length = rows.length ∧ ∀ (i : Nat) (t : Addr) (q : LRow), ts[i]? = some t → rows[i]? = some q → ∃ w : Addr, H t = some (.tup [.int (1 + (i : Nat)), .ref w]) ∧ WdsAt H w q
def spNl : Sp := fun vs H Q _ => ∃ rows : List LRow, vs = [.str (S (textL rows))] ∧ (∀ q ∈ rows, RowOk q) ∧ rows.length ≤ 60 ∧ ∀ (p : Addr) (H' : Hp), H p = none → Same H H' → LnsAt H' p rows → Q (.ref p) H'
def TrsAt (CT : Addr) (H : Hp) (ts : List Addr) (rows : List LRow) : Prop := ts.length = rows.length ∧ ∀ (i : Nat) (t : Addr) (q : LRow), ts[i]? = some t → rows[i]? = some q → Tri CT H t q.1 q.2.1 q.2.2
def spRd (CT : Addr) : Sp := fun vs H Q _ => ∃ rows : List LRow, vs = [.str (S (textL rows))] ∧ (∀ q ∈ rows, RowOk q) ∧ rows.length ≤ 60 ∧ ∀ (p : Addr) (ts : List Addr) (H' : Hp), H p = none → Same H H' → H' p = some (.lst (ts.map V.ref)) → TrsAt CT H' ts rows → Q (.ref p) H'
def spWr (K : PySem.W.Frag) (CT : Addr) : Sp := fun vs H Q _ => ∃ (p : Addr) (ts : List Addr) (rows : List LRow), vs = [.ref p] ∧ Sq K H p (ts.map V.ref) ∧ TrsAt CT H ts rows ∧ (∀ q ∈ rows, RowOk q) ∧ rows.length ≤ 60 ∧ ∀ H', Same H H' → Q (.str (S (textL rows))) H'
structure IsnTxt (mg : Str → Option Value) : Prop where
  digits : ∃ t, mg "DIGITS" = some (.str "0123456789" t)
  most : ∃ t, mg "MOST_DIGITS" = some (.int 40 t)
  b_len : mg "len" = none
  b_all : mg "all" = none
structure ItlTxt (mg : Str → Option Value) (aR fIsn : Addr) : Prop where
  num : mg "_is_number" = some (.ref fIsn)
  res : mg "RESULTS" = some (.ref aR)
  b_len : mg "len" = none
structure NlTxt (mg : Str → Option Value) : Prop where
  b_enum : mg "enumerate" = none
structure RdTxt (mg : Str → Option Value) (CT fNl fItl : Addr) : Prop where
  nl : mg "_numbered_lines" = some (.ref fNl)
  itl : mg "_is_trial_line" = some (.ref fItl)
  tri : mg "Trial" = some (.ref CT)
  b_int : mg "int" = none
structure WrTxt (K : PySem.W.Frag) (CT fTs : Addr) : Prop where
  fm : PySem.W.findIn K (.ref CT) "__format__" = some (some (.builtin "object.__format__"))
  mo : PySem.W.mroIn K CT (.type "object") = some true
  hs : PySem.W.findIn K (.ref CT) "__str__" = some (some (.ref fTs))
  hf : PySem.W.isFn K (.ref fTs) = true
section
variable {P : Program} {w : World} {K : PySem.W.Frag} {mg : Str → Option Value} {base : Heap} {CT : Addr}
def tJn (ts : List TE) : TE := fun σ H Q => tJs ts Str.empty σ H fun out H1 => Q (.str out) H1
theorem pe_jn {X : Cx} {v1 v2 : Expr} {rest : List Expr} {ts : List TE} {pos : Pos} (h : PJ X (v1 :: v2 :: rest) ts) : PE X (.JoinedStr (v1 :: v2 :: rest) pos) (tJn ts) := pe_joined h
theorem upd_upd {H : Hp} {a : Addr} {o o' : HO} : upd (upd H a o) a o' = upd H a o' := by
  funext b
  by_cases hb : b = a
  · rw [hb, upd_same, upd_same]
  · rw [upd_ne hb, upd_ne hb, upd_ne hb]
theorem ps_no {X : Cx} {st : Stmt} : PS X st (fun _ _ _ => False) := ⟨fun _ _ _ _ _ _ h => h.elim⟩
theorem scIsn : FnScope ["word", "digits", "digit"] ["word"] (defScope sIsn) := ⟨rfl, rfl, rfl, by decide +kernel, rfl, by decide +kernel, by decide +kernel⟩
theorem scItl : FnScope ["words"] ["words"] (defScope sItl) := ⟨rfl, rfl, rfl, by decide +kernel, rfl, by decide +kernel, by decide +kernel⟩
theorem scNl : FnScope ["text", "number", "line"] ["text"] (defScope sNl) := ⟨rfl, rfl, rfl, by decide +kernel, rfl, by decide +kernel, by decide +kernel⟩
theorem scRd : FnScope ["text", "trials", "number", "words", "_", "place", "height", "result"] ["text"] (defScope sRd) := ⟨rfl, rfl, rfl, by decide +kernel, rfl, by decide +kernel, by decide +kernel⟩
theorem scWr : FnScope ["trials", "trial"] ["trials"] (defScope sWr) := ⟨rfl, rfl, rfl, by decide +kernel, rfl, by decide +kernel, by decide +kernel⟩
theorem freshS {H H1 : Hp} {v : Addr} (S : Same H H1) (n : H1 v = none) : H v = none := by
  cases e : H v with
  | none => rfl
  | some o =>
    have := S _ _ e
    rw [n] at this
    cases this
theorem codes10 : ("0123456789" : Str).cps.toList = [48, 49, 50, 51, 52, 53, 54, 55, 56, 57] := by decide +kernel
theorem starts_no {c d : Nat} (h : 48 ≤ c ∧ c ≤ 57) (hd : d = 45 ∨ (d = 48 ∧ c ≠ 48)) (r : List Nat) : Txt.startswith (S (c :: r)) (S [d]) = false := by
  rw [starts_one]
  have : c = 48 ∨ c = 49 ∨ c = 50 ∨ c = 51 ∨ c = 52 ∨ c = 53 ∨ c = 54 ∨ c = 55 ∨ c = 56 ∨ c = 57 := by omega
  rcases hd with rfl | ⟨rfl, h0⟩
  · rcases this with rfl | rfl | rfl | rfl | rfl | rfl | rfl | rfl | rfl | rfl <;> decide +kernel
  · rcases this with rfl | rfl | rfl | rfl | rfl | rfl | rfl | rfl | rfl | rfl
    · exact (h0 rfl).elim
    all_goals decide +kernel
set_option maxHeartbeats 0 in
theorem ok_isn {f : Addr} {fd : FuncData} (F : Fun K "_is_number" "_is_number" sIsn f fd) (T : IsnTxt mg) : FnOk P w K mg base CX0 1 f fd ["word"] spIsn := by
  obtain ⟨td, hdg⟩ := T.digits
  obtain ⟨tm, hmd⟩ := T.most
  refine F.ok scIsn (fun vs H Q E h => ?_) (fun cdv A outer s H vs Q E hr h => ?_)
  · obtain ⟨n, rfl, _⟩ := h
    rfl
  · obtain ⟨n, rfl, hn, k⟩ := h
    refine ⟨_, (pss_cons (ps_if (pt_cmpR op_eq (pv 0) pe_str (nomark _)) (pss_one (ps_ret pe_bl)) pss_nil)
      (C8.pss_cut (ps_set (i := 1) scIsn.nd rfl (Or.inl rfl) (pe_ifExp (pt_val (pe_m1 PySem.F.slot_str_startswith PySem.F.type_str_startswith mt_startswith (pv 0) pe_str)) (pe_slice sl_str (pv 0) (po_some pe_int) po_none) (pv 0)))
      (pss_cons (ps_if (PW.pt (pw_or (pt_not (pt_chain op_le op_le pe_int (pe_callB call_len_str (by rfl) T.b_len PySem.boot_len (pa_cons (pv 1) pa_nil)) (pe_glob (v := .int 40) rfl hmd ⟨_, rfl⟩))) (pw_or1 (pt_val (pe_m1 PySem.F.slot_str_startswith PySem.F.type_str_startswith mt_startswith (pv 1) pe_str))))) (pss_one (ps_ret pe_bl)) pss_nil)
      (pss_one (ps_ret (pe_callB (cr_all (by rfl)) (by rfl) T.b_all (by decide +kernel) (pa_cons (pe_lc (own := [("digit", 2)]) (g := gName 2) (tt := tYes) (by rfl) scIsn.nd (pi_str (pv 1)) (blkOk_by (own := [("digit", 2)]) (N := ["word", "digits", "digit"]) (sc := defScope sIsn) (by decide +kernel)) (fun _ _ _ _ _ => pg_name (i := 2) scIsn.nd rfl (Or.inl rfl)) (fun _ _ _ _ _ => pts_nil) (fun _ _ _ _ _ => (pe_cmpR op_inS (pv 2) (pe_glob (v := .str "0123456789") rfl hdg ⟨_, rfl⟩) rfl))) pa_nil))))))), ?_⟩
    refine ⟨_, rfl, rfl, _, rfl, ite2 (fun g => k _ same_rfl) (fun g => ?_)⟩
    have n0 : n ≠ 0 := fun z => g (decide_eq_true (by rw [z]; decide +kernel))
    obtain ⟨m, m0, m40, ch⟩ : ∃ m : Nat, 0 < m ∧ m < 10 ^ 40 ∧ (iL n = TL.numL m ∨ iL n = 45 :: TL.numL m) := by
      cases n with
      | ofNat m => exact ⟨m, by have : (Int.ofNat m : Int) ≠ 0 := n0; have : m ≠ 0 := fun z => this (by rw [z]; rfl); omega, hn, .inl rfl⟩
      | negSucc m => exact ⟨m + 1, by omega, hn, .inr rfl⟩
    obtain ⟨c, r, er, c0, c9⟩ := numL_head m m0
    have l40 := numL_le m40
    have ldig := TL.numL_digits m
    refine ⟨fun σ' H' => σ' = [some (.str (S (iL n))), some (.str (S (TL.numL m))), none] ∧ H = H', ?_, ?_⟩
    · have e45 : (Str.ofString "-" : Str) = S [45] := by decide +kernel
      refine ⟨_, rfl, ⟨_, rfl⟩, _, _, rfl, rfl, _, rfl, ?_⟩
      rcases ch with ch | ch
      · rw [ch]
        refine if_f (by rw [e45, er]; exact starts_no ⟨by omega, c9⟩ (.inl rfl) r) ⟨_, rfl, rfl, rfl⟩
      · rw [ch]
        have ec : cutS (S (45 :: TL.numL m)) (some 1) none = S (TL.numL m) := by
          rw [C8.cutS_slice, slice_from (by decide)]
          rfl
        refine if_t (by rw [e45, starts_one]; decide +kernel) ⟨_, rfl, _, rfl, S (45 :: TL.numL m), rfl, by rw [S_len]; exact Nat.le_trans (Nat.succ_le_succ l40) (by rw [sizeLine_eq]; decide), ?_, rfl⟩
        rw [ec]
        rfl
    rintro σ' H1 ⟨rfl, rfl⟩
    have e48 : (Str.ofString "0" : Str) = S [48] := by decide +kernel
    have zl : (S (TL.numL m)).length ≤ sizeLine := by rw [S_len]; exact Nat.le_trans l40 (by rw [sizeLine_eq]; decide)
    have l1 : 1 ≤ (S (TL.numL m)).length := by rw [S_len, er]; exact Nat.succ_le_succ (Nat.zero_le _)
    have l41 : (S (TL.numL m)).length ≤ 40 := by rw [S_len]; exact l40
    refine ⟨_, rfl, _, rfl, zl, _, _, rfl, rfl, _, rfl, if_t (decide_eq_true (by omega)) ?_⟩
    refine ⟨_, _, rfl, rfl, _, rfl, if_f (by rw [decide_eq_true (by omega)]; rfl) ?_⟩
    refine ⟨_, rfl, ⟨_, rfl⟩, _, _, rfl, rfl, _, rfl, if_f (by rw [e48, er]; exact starts_no ⟨by omega, c9⟩ (.inr ⟨rfl, by omega⟩) r) ?_⟩
    refine ⟨_, rfl, _, rfl, fun D hD => ?_⟩
    refine lc_it (walk_str (z := S (TL.numL m))) (fun i H' => H' D = some (.lst ((List.replicate i true).map V.bl)) ∧ Same H H') ⟨upd_same, same_new hD⟩ (fun _ _ _ _ => trivial) ?_ ?_
    · rintro i x H2 H3 hi ⟨e2, S2⟩ ⟨rfl, d, hd, rfl⟩
      have dm : d ∈ TL.numL m := by
        have : (TL.numL m)[i]? = some d := by
          have := hd
          simpa using this
        exact List.mem_of_getElem? this
      have dd := ldig d dm
      have i40 : i < 41 := by
        have : i < (TL.numL m).length := by simpa using hi
        omega
      refine ⟨rfl, _, rfl, d, _, rfl, rfl, _, e2, small1000 (by rw [List.length_map, List.length_replicate]; omega), ?_, fun c o e => ?_⟩
      · rw [upd_same, List.replicate_succ', List.map_append]
        rw [decide_eq_true (show d ∈ ("0123456789" : Str).cps.toList by rw [codes10]; simp only [List.mem_cons, List.not_mem_nil, or_false]; omega)]
        rfl
      · rw [upd_ne (ne_of_none e hD)]
        exact S2 _ _ e
    rintro H2 ⟨e2, S2⟩
    refine ⟨D, _, rfl, SqL.of e2, ?_⟩
    rw [show (List.replicate _ true).all id = true by simp]
    exact k _ S2
theorem word_lst (q : LRow) : ((partsL q).map fun x => V.str (S x)) = [.str (S (codes "trial")), .str (S (iL q.1)), .str (S (iL q.2.1)), .str (S (wordL q.2.2))] := rfl
set_option maxHeartbeats 0 in
theorem ok_itl {f fIsn aR : Addr} {fd fdIsn : FuncData} (F : Fun K "_is_trial_line" "_is_trial_line" sItl f fd) (GIsn : FnOk P w K mg base CX0 1 fIsn fdIsn ["word"] spIsn) (FIsn : Fun K "_is_number" "_is_number" sIsn fIsn fdIsn) (bIsn : Binds K fdIsn ["word"] []) (T : ItlTxt mg aR fIsn) (hR : ∀ H : Hp, SqT K H aR [.str "reached", .str "missed"]) : FnOk P w K mg base CX0 2 f fd ["words"] spItl := by
  refine F.ok scItl (fun vs H Q E h => ?_) (fun cdv A outer s H vs Q E hr h => ?_)
  · obtain ⟨p, q, rfl, _⟩ := h
    rfl
  · obtain ⟨p, q, rfl, hp, ok, k⟩ := h
    have hr2 : Room 1 _ := hr.mono (by decide)
    refine ⟨_, (pss_cons (ps_if (PW.pt (pw_or (pt_cmpR op_ne (pe_callB call_len_seq (by rfl) T.b_len PySem.boot_len (pa_cons (pv 0) pa_nil)) pe_int (nomark _)) (pw_or (pt_cmpR op_ne (pe_ix ix_list (pv 0) pe_int (fun _ _ => rfl)) pe_str (nomark _)) (pw_or1 (pt_cmpR op_notIn_seq (pe_ix ix_list (pv 0) pe_int (fun _ _ => rfl)) (pe_glob (v := .ref aR) rfl T.res rfl) rfl))))) (pss_one (ps_ret pe_bl)) pss_nil)
      (pss_one (ps_ret (pe_and (pe_call GIsn hr2 rfl T.num FIsn.kp bIsn .nil pass0 (pa_cons (pe_ix ix_list (pv 0) pe_int (fun _ _ => rfl)) pa_nil)) (pe_one (pe_call GIsn hr2 rfl T.num FIsn.kp bIsn .nil pass0 (pa_cons (pe_ix ix_list (pv 0) pe_int (fun _ _ => rfl)) pa_nil))))))), ?_⟩
    unfold WdsAt at hp
    rw [word_lst] at hp
    have et : (Str.ofString "trial" : Str) = S (codes "trial") := codes_str _
    have er : (Str.ofString "reached" : Str) = S (codes "reached") := codes_str _
    have em : (Str.ofString "missed" : Str) = S (codes "missed") := codes_str _
    refine ⟨_, rfl, p, _, rfl, .inl (SqL.of hp), rfl, _, rfl, if_f (by rfl) ?_⟩
    refine ⟨_, rfl, p, _, 0, _, rfl, rfl, SqL.of hp, rfl, rfl, _, rfl, if_f (by rw [et]; simp) ?_⟩
    refine ⟨_, rfl, p, _, 3, _, rfl, rfl, SqL.of hp, rfl, aR, _, rfl, .inr (hR _), rfl, rfl, _, rfl, if_f ?_ ?_⟩
    · show (!inV (V.str (S (wordL q.2.2))) [V.str "reached", V.str "missed"]) = false
      unfold wordL
      split
      · rw [← er]
        decide +kernel
      · rw [← em]
        decide +kernel
    refine ⟨_, rfl, p, _, 1, _, rfl, rfl, SqL.of hp, rfl, q.1, rfl, ok.1, fun H1 S1 => ⟨_, rfl, if_t rfl ?_⟩⟩
    exact ⟨_, rfl, p, _, 2, _, rfl, rfl, SqL.of (S1 _ _ hp), rfl, q.2.1, rfl, ok.2, fun H2 S2 => k _ (same_tr S1 S2)⟩
set_option maxHeartbeats 0 in
theorem ok_nl {f : Addr} {fd : FuncData} (F : Fun K "_numbered_lines" "_numbered_lines" sNl f fd) (T : NlTxt mg) : FnOk P w K mg base CX0 1 f fd ["text"] spNl := by
  refine F.ok scNl (fun vs H Q E h => ?_) (fun cdv A outer s H vs Q E hr h => ?_)
  · obtain ⟨rows, rfl, _⟩ := h
    rfl
  · obtain ⟨rows, rfl, ok, r60, k⟩ := h
    refine ⟨_, (pss_cons (ps_if (pt_not (pt_truth (pv 0) (by intro _; rfl))) (pss_one (ps_ret (pe_lst pa_nil))) pss_nil)
      (pss_one (ps_ret (pe_lc (own := [("number", 1), ("line", 2)]) (g := gTup K 2 (gCons (gName 1) (gCons (gName 2) gNil))) (tt := tYes) (by rfl) scNl.nd (EnumS.pi_enC (by rfl) T.b_enum (pa_cons (pe_split (pv 0) pe_str) pa_nil) (pk_cons pe_int pk_nil)) (blkOk_by (own := [("number", 1), ("line", 2)]) (N := ["text", "number", "line"]) (sc := defScope sNl) (by decide +kernel)) (fun _ _ _ _ _ => by exact (pg_tup (n := 2) rfl (pgs_cons (pg_name (i := 1) scNl.nd rfl (Or.inl rfl)) (pgs_cons (pg_name (i := 2) scNl.nd rfl (Or.inl rfl)) pgs_nil)))) (fun _ _ _ _ _ => pts_nil) (fun _ _ _ _ _ => (pe_tup (pa_cons (pv 1) (pa_cons (pe_split (pv 2) pe_str) pa_nil)))))))), ?_⟩
    by_cases c : rows = []
    · obtain rfl := c
      refine ⟨_, rfl, false, ⟨by show 0 ≤ sizeLine; exact Nat.zero_le _, rfl⟩, if_t rfl ⟨by show 0 ≤ sizeLine; decide, fun D hD => k D _ hD (same_new hD) ⟨[], upd_same, rfl, fun i t q e => nomatch e⟩⟩⟩
    · have ne := text_ne c
      have tl := text_len ok
      have big : ∀ n : Nat, n ≤ 10000 → n ≤ sizeLine := fun n h => by rw [sizeLine_eq]; omega
      have tp : 0 < (textL rows).length := List.length_pos_iff.mpr ne
      refine ⟨_, rfl, true, ⟨by rw [S_len]; exact big _ (by omega), ?_⟩, if_f rfl ?_⟩
      · rw [S_len]
        symm
        rw [bne_iff_ne]
        omega
      have e10 : (Str.ofString "\n" : Str) = S [10] := by decide +kernel
      have e32 : (Str.ofString " " : Str) = S [32] := by decide +kernel
      refine ⟨_, rfl, ⟨_, rfl⟩, _, _, rfl, rfl, by decide +kernel, by rw [S_len]; exact big _ (by omega), fun L hL => ?_⟩
      rw [e10, split_S (List.cons_ne_nil _ _) (by decide), text_split c]
      have e1 : upd H L (.lst (((rows.map lineL).map S).map V.str)) L = some (.lst (((rows.map lineL).map S).map V.str)) := upd_same
      have s1 := same_new (o := .lst (((rows.map lineL).map S).map V.str)) hL
      generalize upd H L (.lst (((rows.map lineL).map S).map V.str)) = H1 at s1 e1 ⊢
      refine ⟨L, _, 1, rfl, rfl, by decide, by decide, SqL.of e1, fun J hJ D hD => ?_⟩
      refine lc_it hJ (fun i H' => ∃ ts : List Addr, H' D = some (.lst (ts.map V.ref)) ∧ ts.length = i ∧ Same H1 H' ∧ ∀ (j : Nat) (t : Addr) (q : LRow), ts[j]? = some t → rows[j]? = some q → ∃ w : Addr, H' t = some (.tup [.int (1 + (j : Nat)), .ref w]) ∧ WdsAt H' w q) ⟨[], upd_same, rfl, same_new hD, fun j t q e => nomatch e⟩ (fun _ _ _ h => by obtain ⟨_, _, _, S, _⟩ := h; exact S) ?_ ?_
      · rintro i x H2 H3 hi ⟨ts, d1, d2, d3, d4⟩ ⟨T0, x0, y0, rfl, hT0, rfl, ea, eb⟩
        cases ea
        rw [List.length_map, List.length_map, List.length_map] at hi
        obtain ⟨q, hq⟩ : ∃ q, rows[i]? = some q := ⟨_, List.getElem?_eq_getElem hi⟩
        have eb : (((rows.map lineL).map S).map V.str)[i]? = some y0 := eb
        rw [List.getElem?_map, List.getElem?_map, List.getElem?_map, hq] at eb
        cases eb
        have qo := ok q (List.mem_of_getElem? hq)
        have ll := line_len qo
        refine ⟨T0, _, rfl, SqT.of upd_same, rfl, _, _, rfl, _, _, rfl, rfl, rfl, _, rfl, _, rfl, ⟨_, rfl⟩, _, _, rfl, rfl, by decide +kernel, by rw [S_len]; exact big _ (by omega), fun W hW => ?_⟩
        rw [e32, split_S (List.cons_ne_nil _ _) (by decide), line_split]
        have s4 := same_new (o := .tup [V.int (1 + (i : Int)), V.str (S (lineL q))]) hT0
        have s5 := same_new (o := .lst (((partsL q).map S).map V.str)) hW
        have wds : WdsAt (upd (upd H2 T0 (.tup [V.int (1 + (i : Int)), V.str (S (lineL q))])) W (.lst (((partsL q).map S).map V.str))) W q := by
          unfold WdsAt
          rw [upd_same, List.map_map]
          rfl
        have s45 := same_tr s4 s5
        generalize upd (upd H2 T0 (.tup [V.int (1 + (i : Int)), V.str (S (lineL q))])) W (.lst (((partsL q).map S).map V.str)) = H5 at s5 s45 wds ⊢
        refine ⟨by show 2 ≤ sizeLine; decide, fun U hU => ?_⟩
        have s6 := same_new (o := .tup [V.int (1 + (i : Int)), V.ref W]) hU
        have s46 := same_tr s45 s6
        have eU : upd H5 U (.tup [V.int (1 + (i : Int)), V.ref W]) U = some (.tup [V.int (1 + (i : Int)), V.ref W]) := upd_same
        have wd6 := s6 _ _ wds
        generalize upd H5 U (.tup [V.int (1 + (i : Int)), V.ref W]) = H6 at s6 s46 eU wd6 ⊢
        have nD : ∀ {y : Addr} {xs : List V}, H6 y = some (.tup xs) → y ≠ D := fun h z => by
          rw [z, s46 _ _ d1] at h
          cases h
        refine ⟨_, s46 _ _ d1, small1000 (by rw [List.length_map]; omega), ts ++ [U], by rw [upd_same, List.map_append]; rfl, by rw [List.length_append, d2]; rfl, fun c o e => ?_, fun j t' q' e1 e2 => ?_⟩
        · rw [upd_ne (ne_of_none e hD)]
          exact s46 _ _ (d3 _ _ e)
        · have nW : ∀ {y : Addr} {qq : LRow}, H6 y = some (.lst ((partsL qq).map fun x => V.str (S x))) → y ≠ D := fun {y qq} h z => by
            rw [z, s46 _ _ d1] at h
            have h := HO.lst.inj (Option.some.inj h)
            rw [word_lst] at h
            cases ts with
            | nil => cases h
            | cons a as => cases h
          by_cases jl : j < i
          · rw [List.getElem?_append_left (by omega)] at e1
            obtain ⟨w', h1, h2⟩ := d4 j t' q' e1 e2
            have h1' := s46 _ _ h1
            have h2' := s46 _ _ h2
            exact ⟨w', by rw [upd_ne (nD h1')]; exact h1', by unfold WdsAt; rw [upd_ne (nW h2')]; exact h2'⟩
          · have jt : j < (ts ++ [U]).length := (List.getElem?_eq_some_iff.mp e1).1
            rw [List.length_append] at jt
            have jt : j < ts.length + 1 := jt
            have ej : j = i := by omega
            subst ej
            rw [hq] at e2
            cases e2
            rw [List.getElem?_append_right (by omega), d2, Nat.sub_self] at e1
            cases e1
            exact ⟨W, by rw [upd_ne (nD eU)]; exact eU, by unfold WdsAt; rw [upd_ne (nW wd6)]; exact wd6⟩
      · rintro H2 ⟨ts, d1, d2, d3, d4⟩
        rw [List.length_map, List.length_map, List.length_map] at d2
        exact k D _ (freshS s1 hD) (same_tr s1 d3) ⟨ts, d1, d2, d4⟩
theorem line_txt (q : LRow) : (Str.empty ++ Str.ofString "trial ") ++ triTxt q.1 q.2.1 q.2.2 = S (lineL q) := by
  have e0 : (Str.empty : Str) = S [] := rfl
  have et : (Str.ofString "trial " : Str) = S (codes "trial" ++ [32]) := by rw [codes_str]; rfl
  have e1 : (Str.ofString " " : Str) = S [32] := by rw [codes_str]; rfl
  have er : (Str.ofString " reached" : Str) = S ([32] ++ codes "reached") := by rw [codes_str]; rfl
  have em : (Str.ofString " missed" : Str) = S ([32] ++ codes "missed") := by rw [codes_str]; rfl
  have e : lineL q = codes "trial" ++ ([32] ++ (iL q.1 ++ ([32] ++ (iL q.2.1 ++ ([32] ++ wordL q.2.2))))) := rfl
  unfold triTxt
  rw [e, iL_str, iL_str, e0, et, e1, er, em]
  unfold wordL
  cases q.2.2 with
  | true =>
    rw [if_pos rfl, if_pos rfl]
    simp only [S_cat, List.nil_append, List.append_assoc]
  | false =>
    rw [if_neg (by decide), if_neg (by decide)]
    simp only [S_cat, List.nil_append, List.append_assoc]
theorem lines_sum : ∀ {rows : List LRow}, (∀ q ∈ rows, RowOk q) → ((rows.map fun q => S (lineL q)).map (·.length)).sum ≤ 100 * rows.length
  | [], _ => Nat.zero_le _
  | q :: rows, h => by
    have a := line_len (h q List.mem_cons_self)
    have b := lines_sum (rows := rows) fun x hx => h x (List.mem_cons_of_mem _ hx)
    rw [List.map_cons, List.map_cons, List.sum_cons, S_len, List.length_cons]
    omega
set_option maxHeartbeats 0 in
theorem ok_wr {f fTs : Addr} {fd : FuncData} (F : Fun K "write_trials" "write_trials" sWr f fd) (GTs : FnR P w K mg base CX0 1 fTs (spTst CT)) (T : WrTxt K CT fTs) : FnOk P w K mg base CX0 3 f fd ["trials"] (spWr K CT) := by
  refine F.ok scWr (fun vs H Q E h => ?_) (fun cdv A outer s H vs Q E hr h => ?_)
  · obtain ⟨p, ts, rows, rfl, _⟩ := h
    rfl
  · obtain ⟨p, ts, rows, rfl, hp, ⟨tl, ht⟩, ok, r60, k⟩ := h
    have hr2 : Room 2 _ := hr
    refine ⟨_, (pss_one (ps_ret (pe_join pe_str (pe_lc (own := [("trial", 1)]) (g := gName 1) (tt := tYes) (by rfl) scWr.nd (pi_seq (pv 0)) (blkOk_by (own := [("trial", 1)]) (N := ["trials", "trial"]) (sc := defScope sWr) (by decide +kernel)) (fun _ _ _ _ _ => pg_name (i := 1) scWr.nd rfl (Or.inl rfl)) (fun _ _ _ _ _ => pts_nil) (fun _ _ _ _ _ => by exact (pe_jn (.cons pe_str (.cons (Own.pe_fmtO GTs T.fm T.mo T.hs T.hf hr2 pass0 (pv 1)) .nil)))))))), ?_⟩
    have e10 : (Str.ofString "\n" : Str) = S [10] := by decide +kernel
    have etr : (Str.ofString "trial " : Str) = S (codes "trial ") := codes_str _
    refine ⟨⟨_, rfl⟩, _, rfl, p, _, rfl, hp, fun J hJ D hD => ?_⟩
    refine lc_it hJ (fun i H' => H' D = some (.lst (((rows.take i).map fun q => S (lineL q)).map V.str)) ∧ Same H H') ⟨by rw [List.take_zero]; exact upd_same, same_new hD⟩ (fun _ _ _ h => h.2) ?_ ?_
    · rintro i x H2 H3 hi ⟨d1, d2⟩ ⟨rfl, hy⟩
      rw [List.length_map] at hi
      rw [List.getElem?_map, List.getElem?_eq_getElem hi] at hy
      cases hy
      obtain ⟨q, hq⟩ : ∃ q, rows[i]? = some q := ⟨_, List.getElem?_eq_getElem (by omega)⟩
      have qo := ok q (List.mem_of_getElem? hq)
      have tr := (ht i _ q (List.getElem?_eq_getElem hi) hq)
      obtain ⟨dx, fs, hx, m1, m2, m3, m4⟩ := id (show Tri CT H3 ts[i] q.1 q.2.1 q.2.2 from tr.same d2)
      have bd : ∀ z : Int, z.natAbs < 10 ^ 40 → z.natAbs < 2 ^ 1000 := fun z h => Nat.lt_of_lt_of_le h (by decide +kernel)
      have lq := line_len qo
      refine ⟨rfl, _, rfl, by decide +kernel, _, rfl, ts[i], dx, fs, rfl, hx, ts[i], q.1, q.2.1, q.2.2, rfl, tr.same d2, bd _ qo.1, bd _ qo.2, _, rfl, _, rfl, ?_, ?_⟩
      · rw [line_txt, S_len, sizeLine_eq]
        omega
      · show ∃ acc, _
        rw [line_txt]
        refine ⟨_, d1, small1000 (by rw [List.length_map, List.length_map, List.length_take]; omega), ?_, fun c o e => ?_⟩
        · rw [upd_same, List.take_succ, hq, List.map_append, List.map_append]
          rfl
        · rw [upd_ne (ne_of_none e hD)]
          exact d2 _ _ e
    · rintro H2 ⟨d1, d2⟩
      rw [List.length_map, tl, List.take_length] at d1
      refine ⟨_, D, rows.map fun q => S (lineL q), rfl, rfl, .inl (SqL.of d1), ?_, ?_⟩
      · have := lines_sum ok
        rw [e10, List.length_map, S_len]
        show _ + rows.length * 1 ≤ 16777216
        omega
      · rw [e10, show (rows.map fun q => S (lineL q)) = (rows.map lineL).map S by rw [List.map_map]; rfl, join_S]
        exact k _ d2
theorem TrsAt.app {CT : Addr} {H : Hp} {ts : List Addr} {rows : List LRow} {x : Addr} {q : LRow} (h : TrsAt CT H ts rows) (hx : Tri CT H x q.1 q.2.1 q.2.2) : TrsAt CT H (ts ++ [x]) (rows ++ [q]) := by
  refine ⟨by rw [List.length_append, List.length_append, h.1]; rfl, fun i t r e1 e2 => ?_⟩
  by_cases c : i < ts.length
  · rw [List.getElem?_append_left c] at e1
    rw [List.getElem?_append_left (by rw [← h.1]; exact c)] at e2
    exact h.2 i t r e1 e2
  · rw [List.getElem?_append_right (by omega)] at e1
    rw [List.getElem?_append_right (by rw [← h.1]; omega), ← h.1] at e2
    have : i - ts.length = 0 := by
      have := (List.getElem?_eq_some_iff.mp e1).1
      have this : i - ts.length < 1 := this
      omega
    rw [this] at e1 e2
    cases e1
    cases e2
    exact hx
set_option maxHeartbeats 0 in
theorem ok_rd {f fNl fItl fI : Addr} {fd fdNl fdItl : FuncData} (F : Fun K "read_trials" "read_trials" sRd f fd) (GNl : FnOk P w K mg base CX0 1 fNl fdNl ["text"] spNl) (FNl : Fun K "_numbered_lines" "_numbered_lines" sNl fNl fdNl) (bNl : Binds K fdNl ["text"] [])
    (GItl : FnOk P w K mg base CX0 2 fItl fdItl ["words"] spItl) (FItl : Fun K "_is_trial_line" "_is_trial_line" sItl fItl fdItl) (bItl : Binds K fdItl ["words"] []) (MK : Mk K CT fI) (GI : FnR P w K mg base CX0 1 fI (spTini CT)) (T : RdTxt mg CT fNl fItl) : FnOk P w K mg base CX0 3 f fd ["text"] (spRd CT) := by
  refine F.ok scRd (fun vs H Q E h => ?_) (fun cdv A outer s H vs Q E hr h => ?_)
  · obtain ⟨rows, rfl, _⟩ := h
    rfl
  · obtain ⟨rows, rfl, ok, r60, k⟩ := h
    have hr1 : Room 1 _ := hr.mono (by decide)
    have hr2 : Room 2 _ := hr
    have hr3 : Room 2 _ := hr
    refine ⟨_, (pss_cons (ps_set (i := 1) scRd.nd rfl (Or.inl rfl) (pe_lst pa_nil))
      (C8.pss_cut (ps_for PassesOwn.never rfl (pi_list (pe_call GNl hr1 rfl T.nl FNl.kp bNl .nil pass0 (pa_cons (pv 0) pa_nil))) (pg_tup (by rfl) (pgs_cons (pg_name (i := 2) scRd.nd rfl (Or.inl rfl)) (pgs_cons (pg_name (i := 3) scRd.nd rfl (Or.inl rfl)) pgs_nil))) (pss_cons (ps_if (pt_not (pt_val (pe_call GItl hr2 rfl T.itl FItl.kp bItl .nil pass0 (pa_cons (pv 3) pa_nil)))) (pss_one ps_no) pss_nil)
      (pss_cons (ps_asg (pv 3) (pg_lst (by rfl) (pgs_cons (pg_name (i := 4) scRd.nd rfl (Or.inl rfl)) (pgs_cons (pg_name (i := 5) scRd.nd rfl (Or.inl rfl)) (pgs_cons (pg_name (i := 6) scRd.nd rfl (Or.inl rfl)) (pgs_cons (pg_name (i := 7) scRd.nd rfl (Or.inl rfl)) pgs_nil))))))
      (pss_one (ps_expr (pe_bm PySem.F.plainAttrs_list PySem.F.slot_list_append PySem.F.type_list_append mt_append (pv 1) (pa_cons (Own.pe_makeS (E := fun _ => E0) MK GI hr2 rfl T.tri (passS pass0) (pa_cons (pe_callTy call_int_str (by rfl) T.b_int (by decide +kernel) (pa_cons (pv 5) pa_nil)) (pa_cons (pe_callTy call_int_str (by rfl) T.b_int (by decide +kernel) (pa_cons (pv 6) pa_nil)) (pa_cons (pe_cmpR op_eq (pv 7) pe_str (nomark _)) pa_nil)))) pa_nil)))))))
      (pss_one (ps_ret (pv 1))))), ?_⟩
    refine ⟨by show 0 ≤ sizeLine; decide, fun D hD => ?_⟩
    have s1 := same_new (o := .lst ([] : List V)) hD
    have e1 : upd H D (.lst []) D = some (.lst ([] : List V)) := upd_same
    generalize upd H D (.lst []) = H1 at s1 e1 ⊢
    refine ⟨fun σ' H' => ∃ (ts : List Addr) (v2 v3 v4 v5 v6 v7 : Option V), σ' = [some (.str (S (textL rows))), some (.ref D), v2, v3, v4, v5, v6, v7] ∧ Same H H' ∧ H' D = some (.lst (ts.map V.ref)) ∧ TrsAt CT H' ts rows, ?_, ?_⟩
    · refine ⟨_, rfl, rows, rfl, ok, r60, fun p H2 np S2 ⟨ls, l1, l2, l3⟩ => ⟨p, rfl, ⟨_, SqL.of l1⟩, ?_⟩⟩
      have pD : p ≠ D := fun z => by rw [z, e1] at np; cases np
      have e2 := S2 _ _ e1
      refine for_it (walk_list (xs := ls.map V.ref)) (fun i σ' H' => ∃ (ts : List Addr) (v2 v3 v4 v5 v6 v7 : Option V), σ' = [some (.str (S (textL rows))), some (.ref D), v2, v3, v4, v5, v6, v7] ∧ (∀ c o, c ≠ D → H2 c = some o → H' c = some o) ∧ H' D = some (.lst (ts.map V.ref)) ∧ TrsAt CT H' ts (rows.take i)) ⟨[], _, _, _, _, _, _, rfl, fun c o _ e => e, e2, rfl, fun i t q e => nomatch e⟩ (fun i σ' H' _ h => by obtain ⟨_, _, _, _, _, _, _, _, K', _⟩ := h; exact SqL.of (K' _ _ pD l1)) ?_ ?_
      · rintro i x σ' H3 H4 hi ⟨ts, v2, v3, v4, v5, v6, v7, rfl, K4, d4, t4⟩ ⟨rfl, hx⟩
        rw [List.length_map] at hi
        rw [List.getElem?_map, List.getElem?_eq_getElem hi] at hx
        cases hx
        obtain ⟨q, hq⟩ : ∃ q, rows[i]? = some q := ⟨_, List.getElem?_eq_getElem (by omega)⟩
        have qo := ok q (List.mem_of_getElem? hq)
        obtain ⟨wl, w1, w2⟩ := l3 i _ q (List.getElem?_eq_getElem hi) hq
        have nT : ls[i] ≠ D := fun z => by rw [z, e2] at w1; cases w1
        have nW : wl ≠ D := fun z => by
          unfold WdsAt at w2
          rw [z, e2, word_lst] at w2
          cases w2
        have w1' := K4 _ _ nT w1
        have w2' : WdsAt H4 wl q := K4 _ _ nW w2
        refine ⟨_, _, rfl, SqT.of w1', rfl, _, _, rfl, _, _, rfl, rfl, ?_⟩
        refine ⟨_, rfl, wl, q, rfl, w2', qo, fun H5 S5 => ⟨_, rfl, if_f rfl ?_⟩⟩
        have w5 := S5 _ _ w2'
        rw [word_lst] at w5
        refine ⟨_, rfl, _, _, rfl, SqL.of w5, rfl, _, _, rfl, _, _, rfl, _, _, rfl, _, _, rfl, rfl, ?_⟩
        have d5 := S5 _ _ d4
        have lp := iL_len qo.1
        have lh := iL_len qo.2
        refine ⟨_, rfl, .inl ⟨rfl, _, SqL.of d5⟩, _, rfl, _, q.1, rfl, iL_int qo.1, by rw [S_len]; omega, _, rfl, _, q.2.1, rfl, iL_int qo.2, by rw [S_len]; omega, _, rfl, rfl, ?_⟩
        have er : (Str.ofString "reached" : Str) = S (codes "reached") := codes_str _
        have ew : decide (V.str (S (wordL q.2.2)) = V.str (Str.ofString "reached")) = q.2.2 := by
          rw [er]
          unfold wordL
          cases q.2.2 with
          | true => exact decide_eq_true (by rw [if_pos rfl])
          | false => exact decide_eq_false (by rw [if_neg (by decide)]; exact fun z => absurd (S_inj (V.str.inj z)) (by decide))
        rw [ew]
        refine mk_tri fun x H6 hx S6 hX => ?_
        have d6 := S6 _ _ d5
        have nx : x ≠ D := fun z => by rw [z, d5] at hx; cases hx
        have kx : ∀ {c : Addr} {cl dx : Addr} {fs : List (Str × V)}, H6 c = some (.ins cl dx fs) → c ≠ D := fun h z => by rw [z, d6] at h; cases h
        have tup : ∀ {c : Addr} {p h : Int} {r : Bool}, Tri CT H6 c p h r → Tri CT (upd H6 D (.lst ((ts ++ [x]).map V.ref))) c p h r := fun {c p h r} t => by
          obtain ⟨dx, fs, h1, h2⟩ := t
          exact ⟨dx, fs, by rw [upd_ne (kx h1)]; exact h1, h2⟩
        have t6 : TrsAt CT H6 ts (rows.take i) := ⟨t4.1, fun j y r e1 e2 => ((t4.2 j y r e1 e2).same S5).same S6⟩
        have lt := t4.1
        rw [List.length_take] at lt
        refine ⟨D, _, _, rfl, rfl, d6, small1000 (by rw [List.length_map]; omega), ts ++ [x], _, _, _, _, _, _, rfl, fun c o n e => ?_, by rw [upd_same, List.map_append]; rfl, ?_⟩
        · rw [upd_ne n]
          exact S6 _ _ (S5 _ _ (K4 _ _ n e))
        · rw [List.take_succ, hq]
          rw [show ts.map V.ref ++ [V.ref x] = (ts ++ [x]).map V.ref by rw [List.map_append]; rfl]
          have := t6.app (q := q) hX
          exact ⟨this.1, fun j y r e1 e2 => tup (this.2 j y r e1 e2)⟩
      · rintro σ' H3 ⟨ts, v2, v3, v4, v5, v6, v7, rfl, K3, d3, t3⟩
        rw [List.length_map, l2, List.take_length] at t3
        refine ⟨ts, _, _, _, _, _, _, rfl, fun c o e => K3 c o (ne_of_none e hD) (S2 _ _ (s1 _ _ e)), d3, t3⟩
    rintro σ' H2 ⟨ts, v2, v3, v4, v5, v6, v7, rfl, S2, d2, t2⟩
    exact ⟨_, rfl, k D ts H2 hD S2 d2 t2⟩
end
end Law

/-! `!=` of two lists whose items are equal one by one. -/
namespace NeG
open PySem PySem.SeqAt GQ
open AutoSeq1 (wpAny_loadPart')
open MeetsSeq MeetsSeq2 MeetsSeq3 SeqRoads2
section
variable {pr : Program} {wd : World} {B : Around} {R : Result → Shared → Prop}
theorem loop (x y : Addr) (n : Nat) (J : Nat → Shared → Prop) (hJ : ListI pr wd B (fun e z => R (.error e) z) x y n J) (fin : ∀ z, J n z → R (.ok (.ret (.bool false))) z) (d : Nat) :
    ∀ j : Nat, n - j = d → j ≤ n → ∀ z, J j z → wpAny (model pr wd) B.in1 (Builtin.«list.__eq__.loop» ⟨[.ref x, .ref y, rawInt j, rawInt 3], []⟩) (FinOf pr wd B R) (fun e z => R (.error e) z) z := by
  induction d with
  | zero =>
    intro j hd hj z hz
    obtain ⟨us, vs, n1, n2, gx, gy, s1, s2, _⟩ := hJ _ _ hz
    have ej : j = n := by omega
    have fz : R (.ok (.ret (.bool false))) z := fin z (ej ▸ hz)
    obtain ⟨z1, z2, z3, z4, z5⟩ := z
    wp_walk using wpAny_loadPart' gx, wpAny_loadPart' gy
    have q1 : us[((j : Nat) : Int).toNat]? = none := by simp; omega
    have q2 : vs[((j : Nat) : Int).toNat]? = none := by simp; omega
    rw [q1, q2]
    wp_walk using wpAny_loadPart' gx, wpAny_loadPart' gy
    show R (.ok (.ret (.bool (us.size != vs.size)))) _
    rw [s1, s2]
    simpa using fz
  | succ d ih =>
    intro j hd hj z hz
    obtain ⟨us, vs, n1, n2, gx, gy, s1, s2, trn⟩ := hJ _ _ hz
    have l1 : j < us.size := by omega
    have l2 : j < vs.size := by omega
    have tj := trn l1 l2
    obtain ⟨z1, z2, z3, z4, z5⟩ := z
    wp_walk using wpAny_loadPart' gx, wpAny_loadPart' gy
    have q1 : us[((j : Nat) : Int).toNat]? = some us[j] := by simp [l1]
    have q2 : vs[((j : Nat) : Int).toNat]? = some vs[j] := by simp [l2]
    have nx : ((j : Int) + 1) = ((j + 1 : Nat) : Int) := by omega
    rw [q1, q2]
    refine wpAny_bind (wpAny_mono tj (fun b z' hb => ?_) fun _ _ t => t)
    obtain ⟨eb, hb⟩ := hb
    subst eb
    have rec_ := ih (j + 1) (by omega) (by omega) z' hb
    obtain ⟨y1, y2, y3, y4, y5⟩ := z'
    wp_walk
    rw [nx]
    refine ⟨plainId_quiet plain_eq_loop _, codeAny_builtin entry_eq_loop ?_⟩
    rw [Around.under_plainId plain_eq_loop _]
    exact rec_
theorem list_ne (x y : Addr) (n : Nat) (J : Nat → Shared → Prop) (hJ : ListI pr wd B (fun e z => R (.error e) z) x y n J) (fin : ∀ z, J n z → R (.ok (.ret (.bool false))) z) {z : Shared} (hz : J 0 z) :
    wpAny (model pr wd) B.in1 (Builtin.«list.__ne__» ⟨[.ref x, .ref y], []⟩) (FinOf pr wd B R) (fun e z => R (.error e) z) z := by
  obtain ⟨us, vs, n1, n2, gx, gy, s1, s2, _⟩ := hJ _ _ hz
  have rec_ := loop (B := B) (R := R) x y n J hJ fin _ 0 rfl (Nat.zero_le _) z hz
  obtain ⟨z1, z2, z3, z4, z5⟩ := z
  have sb := AutoSeq1.sub_list_list
  have hs : ¬ (us.size != vs.size) = true := by simp [s1, s2]
  wp_walk using wpAny_loadPart' gx, wpAny_loadPart' gy
  refine ⟨plainId_quiet plain_eq_loop _, codeAny_builtin entry_eq_loop ?_⟩
  rw [Around.under_plainId plain_eq_loop _]
  exact rec_
end
theorem rich {pr : Program} {wd : World} {B : Around} {E : Value → Shared → Prop} {z : Shared} {x y : Addr} {n : Nat} {Q : Value → Shared → Prop} (hu : B.units < cLine) (J : Nat → Shared → Prop) (hJ : ListI pr wd B E x y n J)
    (fin : ∀ z, J n z → Q (.bool false) z) (hz : J 0 z) : wpAny (model pr wd) B (richCompare .NotEq (.ref x) (.ref y)) Q E z := by
  obtain ⟨us, vs, n1, n2, gx, gy, _, _, _⟩ := hJ _ _ hz
  refine wpAny_richCompare_same_room (op := .NotEq) ⟨_, gx, rfl⟩ ⟨_, gy, rfl⟩ F.slot_list_ne (call_here F.slot_list_ne ⟨_, gx, rfl⟩ F.entry_list_ne (F.args_list_ne_2 _ _) ?_) hu
  exact list_ne (R := wants (fun v z => v ≠ .notImplemented ∧ Q v z) E) x y n J hJ (fun z q => ⟨(fun t => nomatch t), fin z q⟩) hz
end NeG
namespace NeG
open PySem PySem.Spec PyProof.Rows L2
def rNeG (D : Eqv) : R2 := fun x y H Q => DList D x y H ∧ ∀ H', Ext H H' → Q (.bl false) H'
theorem op_neG {X : Cx} {n : Nat} {D : Eqv} (hD : Mon D) (h : EqG X n D) (hr : Room (n + 1) X.A) : OpR X (compareOp .NotEq) (rNeG D) := by
  intro pins s σ H x y v u Q I rx ry hq
  obtain ⟨⟨a, b, xs, ys, rfl, rfl, ha, hb, p⟩, q⟩ := hq
  cases rx
  cases ry
  have sb : Sub X (n + 1) X.A := ⟨hr, rfl⟩
  show wpAny (model X.prog X.w) X.A (richCompare .NotEq (.ref a) (.ref b)) (EP X pins σ Q) X.xe s
  refine rich (n := xs.length) sb.room.units0 (fun _ s' => LoopI X pins σ H s') (fun i s' t => ?_) (fun s' t => ?_) ⟨H, I, Ext.rfl'⟩
  · obtain ⟨H1, I1, e1⟩ := id t
    obtain ⟨_, its, k, r, e⟩ := I1.hok a _ (e1 _ _ ha)
    obtain ⟨_, its2, k2, r2, e2⟩ := I1.hok b _ (e1 _ _ hb)
    exact ⟨its.toArray, its2.toArray, k, k2, e, e2, by rw [List.size_toArray, ← r.length], by rw [List.size_toArray, ← r2.length, ← p.1], fun h1 h2 => turnG hD h sb p r r2 i h1 h2 s' t⟩
  · obtain ⟨H1, I1, e1⟩ := t
    exact ⟨.bl false, H1, I1, rfl, q H1 e1⟩
end NeG
/-! Lists of trials are equal by the trials' own ==. -/
namespace Law
open PySem PySem.Spec PyProof.Rows L2
structure TeTxt (K : PySem.W.Frag) (mg : Str → Option Value) (CT : Addr) : Prop where
  isi : mg "isinstance" = none
  ha : PySem.W.findIn K (.ref CT) "__class__" = some (some (.builtin "object.__class__"))
  hn : PySem.W.specialIn K (.builtin "object.__class__") "__get__" = some (some (.builtin "getset_descriptor.__get__"))
  ht : PySem.W.takesIn K (.builtin "object.__class__") = some true
  hm : PySem.W.mroIn K CT (.type "object") = some true
/-- two trials of the same attributes -/
def RTri (CT : Addr) : Addr → Addr → Hp → Prop := fun a b H => ∃ (p h : Int) (r : Bool), Tri CT H a p h r ∧ Tri CT H b p h r
theorem RTri.mon {CT : Addr} : ∀ a b H H', Ext H H' → RTri CT a b H → RTri CT a b H' := fun a b H H' e ⟨p, h, r, h1, h2⟩ => ⟨p, h, r, h1.same e, h2.same e⟩
abbrev DTri (CT : Addr) : Eqv := DList (DIns CT (RTri CT))
theorem op_tris {X : Cx} {CT f : Addr} {fd : FuncData} (F : FnOk X.prog X.w X.K X.mg X.base CX0 1 f fd ["self", "other"] (spEq (RTri CT))) (hs : PySem.W.findIn X.K (.ref CT) "__eq__" = some (some (.ref f))) (hf : PySem.W.isFn X.K (.ref f) = true) (hb : Binds X.K fd ["self", "other"] []) (hr : Room 2 X.A) :
    OpR X (compareOp .Eq) (rEqG (DTri CT)) := op_eqG (rcG_list (mon_ins RTri.mon) (eqG_ins F hs hf hb pass0)) hr
theorem trs_eq {CT : Addr} {H : Hp} {a b : Addr} {ts us : List Addr} {rows : List LRow} (e1 : H a = some (.lst (ts.map V.ref))) (e2 : H b = some (.lst (us.map V.ref))) (h1 : TrsAt CT H ts rows) (h2 : TrsAt CT H us rows) : DTri CT (.ref a) (.ref b) H := by
  obtain ⟨l1, g1⟩ := h1
  obtain ⟨l2, g2⟩ := h2
  refine ⟨a, b, _, _, rfl, rfl, e1, e2, by rw [List.length_map, List.length_map, l1, l2], fun i x y hx hy => ?_⟩
  rw [List.getElem?_map] at hx hy
  obtain ⟨t, ht, rfl⟩ := Option.map_eq_some_iff.mp hx
  obtain ⟨u, hu, rfl⟩ := Option.map_eq_some_iff.mp hy
  obtain ⟨r, hr⟩ : ∃ r, rows[i]? = some r := ⟨_, List.getElem?_eq_getElem (by have := (List.getElem?_eq_some_iff.mp ht).1; omega)⟩
  have T1 := g1 i t r ht hr
  have T2 := g2 i u r hu hr
  obtain ⟨dx, fs, c1, _⟩ := id T1
  obtain ⟨dy, gs, c2, _⟩ := id T2
  exact ⟨t, u, dx, dy, fs, gs, rfl, rfl, c1, c2, _, _, _, T1, T2⟩
section
variable {P : Program} {w : World} {K : PySem.W.Frag} {mg : Str → Option Value} {base : Heap} {CT : Addr}
theorem ok_teqR {f : Addr} {fd : FuncData} (F : Fun K "__eq__" "Trial.__eq__" sTeq f fd) (T : TriTxt K mg CT) (I : TeTxt K mg CT) : FnOk P w K mg base CX0 1 f fd ["self", "other"] (spEq (RTri CT)) := by
  refine F.ok scTeq (fun vs H Q E h => ?_) (fun cdv A outer s H vs Q E hr h => ?_)
  · obtain ⟨a, b, rfl, _⟩ := h
    rfl
  · obtain ⟨a, b, rfl, ⟨p, h, r, ⟨dx, fs, hx, l1, l2, l3, l4⟩, ⟨dy, gs, hy, m1, m2, m3, m4⟩⟩, k⟩ := h
    refine ⟨_, (pss_one (ps_ret (pe_and (pe_callB call_isi (by rfl) I.isi (by decide +kernel) (pa_cons (pv 1) (pa_cons (pe_glob (v := .ref CT) rfl T.tri rfl) pa_nil))) (pe_and (pe_cmpR op_eq (pe_fld (pv 0) rfl) (pe_fld (pv 1) rfl) (nomark _)) (pe_and (pe_cmpR op_eq (pe_fld (pv 0) rfl) (pe_fld (pv 1) rfl) (nomark _)) (pe_one (pe_cmpR op_eq (pe_fld (pv 0) rfl) (pe_fld (pv 1) rfl) (nomark _)))))))), ?_⟩
    refine ⟨_, rfl, V.ref b, V.ref CT, .ref CT, .ref CT, true, rfl, .own _, .base (.ins hy T.cl I.ha I.hn I.ht I.hm), kit_ownT, ?_⟩
    refine ⟨true, rfl, if_t rfl ⟨_, rfl, a, CT, dx, fs, _, rfl, hx, T.cl, T.nP, l1, _, rfl, b, CT, dy, gs, _, rfl, hy, T.cl, T.nP, m1, rfl, ?_⟩⟩
    refine ⟨_, rfl, if_t (by simp) ⟨_, rfl, a, CT, dx, fs, _, rfl, hx, T.cl, T.nH, l2, _, rfl, b, CT, dy, gs, _, rfl, hy, T.cl, T.nH, m2, rfl, ?_⟩⟩
    refine ⟨_, rfl, if_t (by simp) ⟨_, rfl, a, CT, dx, fs, _, rfl, hx, T.cl, T.nR, l3, _, rfl, b, CT, dy, gs, _, rfl, hy, T.cl, T.nR, m3, rfl, ?_⟩⟩
    have e : decide (V.bl r = V.bl r) = true := by simp
    rw [e]
    exact k _ Ext.rfl'
end
end Law

/-! The law's own rows, lines and comparison. -/
namespace Law
open PySem PySem.Spec PyProof.Rows L2 SX NumText ItSeq
abbrev sNum : Stmt := top 18
abbrev sSays : Stmt := top 19
abbrev sRow : Stmt := top 20
abbrev sLin : Stmt := top 21
abbrev sSam : Stmt := top 22
def rowV (q : LRow) : List V := [.int q.1, .int q.2.1, .bl q.2.2]
def spNum : Sp := fun vs H Q _ => ∃ i : Int, vs = [.int i] ∧ Q (.bl true) H
def spSays : Sp := fun vs H Q _ => ∃ a b : Bool, vs = [.bl a, .bl b] ∧ Q (.bl (decide (a = b))) H
def spRow : Sp := fun vs H Q _ => ∃ b l : Addr, vs = [.ref b] ∧ Box H b l ∧ ∀ (q : LRow) (t : Addr) (H' : Hp), RowOk q → H t = none → H' t = some (.tup (rowV q)) → Box H' b l → SameB b H H' → Q (.ref t) H'
def spLin : Sp := fun vs H Q _ => ∃ (t : Addr) (q : LRow), vs = [.ref t] ∧ H t = some (.tup (rowV q)) ∧ RowOk q ∧ ∀ H', Same H H' → Q (.str (S (lineL q))) H'
def RwsAt (H : Hp) (rs : List Addr) (rows : List LRow) : Prop := rs.length = rows.length ∧ ∀ (i : Nat) (t : Addr) (q : LRow), rs[i]? = some t → rows[i]? = some q → H t = some (.tup (rowV q))
theorem RwsAt.same {H H' : Hp} {rs : List Addr} {rows : List LRow} (h : RwsAt H rs rows) (s : Same H H') : RwsAt H' rs rows := ⟨h.1, fun i t q e1 e2 => s _ _ (h.2 i t q e1 e2)⟩
theorem TrsAt.same {CT : Addr} {H H' : Hp} {rs : List Addr} {rows : List LRow} (h : TrsAt CT H rs rows) (s : Same H H') : TrsAt CT H' rs rows := ⟨h.1, fun i t q e1 e2 => (h.2 i t q e1 e2).same s⟩
def spSam (CT : Addr) : Sp := fun vs H Q _ => ∃ (p r : Addr) (ts rs : List Addr) (rows : List LRow), vs = [.ref p, .ref r] ∧ H p = some (.lst (ts.map V.ref)) ∧ TrsAt CT H ts rows ∧ H r = some (.lst (rs.map V.ref)) ∧ RwsAt H rs rows ∧ rows.length ≤ 60 ∧ Q (.bl true) H
theorem Box.neZ {H : Hp} {b l p : Addr} {ns : List Int} (B : Box H b l) (h : H p = some (.lst (ns.map V.int))) : p ≠ b := fun z => by
  obtain ⟨_, _, _, _, q, _⟩ := B
  rw [z, q] at h
  have e := HO.lst.inj (Option.some.inj h)
  match ns, e with
  | [], e => cases e
  | _ :: _, e =>
    rw [List.map_cons] at e
    injection e with e _
    cases e
theorem Box.neL3 {H : Hp} {b l p : Addr} {ts : List Addr} (B : Box H b l) (h : H p = some (.lst (ts.map V.ref))) : p ≠ b := fun z => by
  obtain ⟨_, _, _, _, q, _⟩ := B
  rw [z, q] at h
  have e := HO.lst.inj (Option.some.inj h)
  match ts, e with
  | [], e => cases e
  | [_], e => cases e
  | _ :: _ :: _, e =>
    rw [List.map_cons, List.map_cons] at e
    injection e with _ e
    injection e with e _
    cases e
structure NumTxt (mg : Str → Option Value) : Prop where
  isi : mg "isinstance" = none
  int : mg "int" = none
  bool : mg "bool" = none
structure RowTxt (mg : Str → Option Value) (fT : Addr) : Prop where
  take : mg "_law_take" = some (.ref fT)
  b_range : mg "range" = none
structure LinTxt (mg : Str → Option Value) : Prop where
  b_str : mg "str" = none
  b_int : mg "int" = none
structure SamTxt (mg : Str → Option Value) (fNu fSy : Addr) : Prop where
  num : mg "_law_number" = some (.ref fNu)
  says : mg "_law_says" = some (.ref fSy)
  b_len : mg "len" = none
  b_range : mg "range" = none
  b_isinstance : mg "isinstance" = none
  b_list : mg "list" = none
section
variable {P : Program} {w : World} {K : PySem.W.Frag} {mg : Str → Option Value} {base : Heap} {CT : Addr}
theorem scNum : FnScope ["_law_x"] ["_law_x"] (defScope sNum) := ⟨rfl, rfl, rfl, by decide +kernel, rfl, by decide +kernel, by decide +kernel⟩
theorem scSays : FnScope ["_law_told", "_law_due"] ["_law_told", "_law_due"] (defScope sSays) := ⟨rfl, rfl, rfl, by decide +kernel, rfl, by decide +kernel, by decide +kernel⟩
theorem scRow : FnScope ["_law_box_here", "_law_row_here", "_law_k", "_law_small", "_law_great"] ["_law_box_here"] (defScope sRow) := ⟨rfl, rfl, rfl, by decide +kernel, rfl, by decide +kernel, by decide +kernel⟩
theorem scLin : FnScope ["_law_row_here"] ["_law_row_here"] (defScope sLin) := ⟨rfl, rfl, rfl, by decide +kernel, rfl, by decide +kernel, by decide +kernel⟩
theorem scSam : FnScope ["_law_trials", "_law_rows", "_law_k", "_law_trial"] ["_law_trials", "_law_rows"] (defScope sSam) := ⟨rfl, rfl, rfl, by decide +kernel, rfl, by decide +kernel, by decide +kernel⟩
theorem ok_num {f : Addr} {fd : FuncData} (F : Fun K "_law_number" "_law_number" sNum f fd) (T : NumTxt mg) : FnOk P w K mg base CX0 1 f fd ["_law_x"] spNum := by
  refine F.ok scNum (fun vs H Q E h => ?_) (fun cdv A outer s H vs Q E hr h => ?_)
  · obtain ⟨i, rfl, _⟩ := h
    rfl
  · obtain ⟨i, rfl, k⟩ := h
    refine ⟨_, pss_one (ps_ret (pe_and (pe_callB call_isi (by rfl) T.isi (by decide +kernel) (pa_cons (pv 0) (pa_cons (pe_bltn (v := .ty "int") (by rfl) T.int (by decide +kernel) rfl) pa_nil)))
      (pe_one (pe_not (pe_callB call_isi (by rfl) T.isi (by decide +kernel) (pa_cons (pv 0) (pa_cons (pe_bltn (v := .ty "bool") (by rfl) T.bool (by decide +kernel) rfl) pa_nil))))))), ?_⟩
    refine ⟨_, rfl, V.int i, .ty "int", .type "int", .type "int", true, rfl, .ty _, .base (.int i), by rfl, true, rfl, ?_⟩
    refine if_t rfl ⟨_, rfl, V.int i, .ty "bool", .type "int", .type "bool", false, rfl, .ty _, .base (.int i), by rfl, false, rfl, k⟩
theorem ok_says {f : Addr} {fd : FuncData} (F : Fun K "_law_says" "_law_says" sSays f fd) : FnOk P w K mg base CX0 1 f fd ["_law_told", "_law_due"] spSays := by
  refine F.ok scSays (fun vs H Q E h => ?_) (fun cdv A outer s H vs Q E hr h => ?_)
  · obtain ⟨a, b, rfl, _⟩ := h
    rfl
  · obtain ⟨a, b, rfl, k⟩ := h
    refine ⟨_, (pss_cons (ps_if (pt_val (pv 1)) (pss_one (ps_ret (pe_cmpR op_is_bl (pv 0) pe_bl (nomark _)))) pss_nil)
      (pss_one (ps_ret (pe_cmpR op_is_bl (pv 0) pe_bl (nomark _))))), ?_⟩
    cases b with
    | true => exact ⟨_, rfl, true, rfl, if_t rfl ⟨_, rfl, a, true, rfl, rfl, k⟩⟩
    | false => exact ⟨_, rfl, false, rfl, if_f rfl ⟨_, rfl, a, false, rfl, rfl, k⟩⟩
set_option maxHeartbeats 0 in
theorem ok_lin {f : Addr} {fd : FuncData} (F : Fun K "_law_line" "_law_line" sLin f fd) (T : LinTxt mg) : FnOk P w K mg base CX0 1 f fd ["_law_row_here"] spLin := by
  refine F.ok scLin (fun vs H Q E h => ?_) (fun cdv A outer s H vs Q E hr h => ?_)
  · obtain ⟨t, q, rfl, _⟩ := h
    rfl
  · obtain ⟨t, q, rfl, ht, ok, k⟩ := h
    refine ⟨_, (pss_one (ps_ret (pe_op op_add_str (pe_op op_add_str (pe_op op_add_str (pe_op op_add_str (pe_op op_add_str pe_str (pe_callTy call_str_int (by rfl) T.b_str (by decide +kernel) (pa_cons (pe_ix ix_tup (pv 0) pe_int (fun _ _ => rfl)) pa_nil))) pe_str) (pe_callTy call_str_int (by rfl) T.b_str (by decide +kernel) (pa_cons (pe_ix ix_tup (pv 0) pe_int (fun _ _ => rfl)) pa_nil))) pe_str) (pe_ix ix_list (pe_lst (pa_cons pe_str (pa_cons pe_str pa_nil))) (pe_callTy call_int1 (by rfl) T.b_int (by decide +kernel) (pa_cons (pe_ix ix_tup (pv 0) pe_int (fun _ _ => rfl)) pa_nil)) (fun _ _ => rfl))))), ?_⟩
    have bd : ∀ z : Int, z.natAbs < 10 ^ 40 → z.natAbs.log2 < 1920 := fun z h => log_of (by decide) (Nat.lt_of_lt_of_le h (by decide +kernel))
    have lp := iL_len ok.1
    have lh := iL_len ok.2
    have e1 : (Str.ofString "trial " : Str) = S (codes "trial" ++ [32]) := by rw [codes_str]; rfl
    have e2 : (Str.ofString " " : Str) = S [32] := by rw [codes_str]; rfl
    have e3 : (Str.ofString "reached" : Str) = S (codes "reached") := codes_str _
    have e4 : (Str.ofString "missed" : Str) = S (codes "missed") := codes_str _
    have big : ∀ n : Nat, n ≤ 1000 → n ≤ sizeLine := fun n h => by rw [sizeLine_eq]; omega
    have c5 : (codes "trial").length = 5 := by decide
    have c7 : (wordL q.2.2).length ≤ 7 := by unfold wordL; split <;> decide
    refine ⟨_, rfl, t, _, 0, _, rfl, rfl, SqT.of ht, rfl, q.1, rfl, bd _ ok.1, _, _, rfl, rfl, ?_, _, _, rfl, rfl, ?_, _, rfl, t, _, 1, _, rfl, rfl, SqT.of ht, rfl, q.2.1, rfl, bd _ ok.2, _, _, rfl, rfl, ?_, _, _, rfl, rfl, ?_, by show 2 ≤ sizeLine; decide, fun L hL => ?_⟩
    · rw [e1, iL_str, S_len, S_len, List.length_append, c5]
      exact big _ (by show 5 + 1 + _ ≤ 1000; omega)
    · rw [e1, e2, iL_str, S_cat, S_len, S_len, List.length_append, List.length_append, c5]
      exact big _ (by show 5 + 1 + _ + 1 ≤ 1000; omega)
    · rw [e1, e2, iL_str, iL_str, S_cat, S_cat, S_len, S_len, List.length_append, List.length_append, List.length_append, c5]
      exact big _ (by show 5 + 1 + _ + 1 + _ ≤ 1000; omega)
    · rw [e1, e2, iL_str, iL_str, S_cat, S_cat, S_cat, S_len, S_len, List.length_append, List.length_append, List.length_append, List.length_append, c5]
      exact big _ (by show 5 + 1 + _ + 1 + _ + 1 ≤ 1000; omega)
    have sL := same_new (o := .lst [V.str (Str.ofString "missed"), V.str (Str.ofString "reached")]) hL
    have hw : atI [V.str (Str.ofString "missed"), V.str (Str.ofString "reached")] (if q.2.2 = true then 1 else 0) = some (V.str (S (wordL q.2.2))) := by
      unfold wordL
      cases q.2.2 with
      | true => rw [if_pos rfl, if_pos rfl, ← e3]; rfl
      | false => rw [if_neg (by decide), if_neg (by decide), ← e4]; rfl
    refine ⟨_, rfl, t, _, 2, _, rfl, rfl, SqT.of (sL _ _ ht), rfl, .inr ⟨q.2.2, rfl, L, _, _, _, rfl, rfl, SqL.of upd_same, hw, _, _, rfl, rfl, ?_, ?_⟩⟩
    · rw [e1, e2, iL_str, iL_str, S_cat, S_cat, S_cat, S_cat, S_len, S_len, List.length_append, List.length_append, List.length_append, List.length_append, List.length_append, c5]
      exact big _ (by show 5 + 1 + _ + 1 + _ + 1 + _ ≤ 1000; omega)
    · have e : lineL q = codes "trial" ++ ([32] ++ (iL q.1 ++ ([32] ++ (iL q.2.1 ++ ([32] ++ wordL q.2.2))))) := rfl
      have := k _ sL
      rw [e] at this
      rw [e1, e2, iL_str, iL_str]
      simp only [S_cat, List.append_assoc] at this ⊢
      exact this
set_option maxHeartbeats 0 in
theorem ok_sam {f fNu fSy : Addr} {fd fdNu fdSy : FuncData} (F : Fun K "_law_same" "_law_same" sSam f fd) (GNu : FnOk P w K mg base CX0 1 fNu fdNu ["_law_x"] spNum) (FNu : Fun K "_law_number" "_law_number" sNum fNu fdNu) (bNu : Binds K fdNu ["_law_x"] [])
    (GSy : FnOk P w K mg base CX0 1 fSy fdSy ["_law_told", "_law_due"] spSays) (FSy : Fun K "_law_says" "_law_says" sSays fSy fdSy) (bSy : Binds K fdSy ["_law_told", "_law_due"] []) (TT : TriTxt K mg CT) (T : SamTxt mg fNu fSy) : FnOk P w K mg base CX0 2 f fd ["_law_trials", "_law_rows"] (spSam CT) := by
  refine F.ok scSam (fun vs H Q E h => ?_) (fun cdv A outer s H vs Q E hr h => ?_)
  · obtain ⟨p, r, ts, rs, rows, rfl, _⟩ := h
    rfl
  · obtain ⟨p, r, ts, rs, rows, rfl, hp, ⟨tl, ht⟩, hrr, ⟨rl, hrw⟩, r60, k⟩ := h
    have hr1 : Room 1 _ := hr.mono (by decide)
    refine ⟨_, (pss_cons (ps_if (PW.pt (pw_or (pt_not (pt_val (pe_callB call_isi (by rfl) T.b_isinstance (by decide +kernel) (pa_cons (pv 0) (pa_cons (pe_bltn (v := .ty "list") (by rfl) T.b_list (by decide +kernel) rfl) pa_nil))))) (pw_or1 (pt_cmpR op_ne (pe_callB call_len_seq (by rfl) T.b_len PySem.boot_len (pa_cons (pv 0) pa_nil)) (pe_callB call_len_seq (by rfl) T.b_len PySem.boot_len (pa_cons (pv 1) pa_nil)) (nomark _))))) (pss_one (ps_ret pe_bl)) pss_nil)
      (C8.pss_cut (ps_for PassesOwn.never rfl (pi_range1 (by rfl) T.b_range (pa_cons (pe_callB call_len_seq (by rfl) T.b_len PySem.boot_len (pa_cons (pv 1) pa_nil)) pa_nil)) (pg_name (i := 2) scSam.nd rfl (Or.inl rfl)) (pss_cons (ps_set (i := 3) scSam.nd rfl (Or.inl rfl) (pe_ix ix_list (pv 0) (pv 2) (fun _ _ => rfl)))
      (pss_cons (ps_if (PW.pt (pw_or (pt_not (pt_val (pe_call GNu hr1 rfl T.num FNu.kp bNu .nil pass0 (pa_cons (pe_fld (pv 3) rfl) pa_nil)))) (pw_or1 (pt_not (pt_val (pe_call GNu hr1 rfl T.num FNu.kp bNu .nil pass0 (pa_cons (pe_fld (pv 3) rfl) pa_nil))))))) (pss_one (ps_ret pe_bl)) pss_nil)
      (pss_cons (ps_if (PW.pt (pw_or (pt_cmpR op_ne (pe_fld (pv 3) rfl) (pe_ix ix_tup (pe_ix ix_list (pv 1) (pv 2) (fun _ _ => rfl)) pe_int (fun _ _ => rfl)) (nomark _)) (pw_or1 (pt_cmpR op_ne (pe_fld (pv 3) rfl) (pe_ix ix_tup (pe_ix ix_list (pv 1) (pv 2) (fun _ _ => rfl)) pe_int (fun _ _ => rfl)) (nomark _))))) (pss_one (ps_ret pe_bl)) pss_nil)
      (pss_one (ps_if (pt_not (pt_val (pe_call GSy hr1 rfl T.says FSy.kp bSy .nil pass0 (pa_cons (pe_fld (pv 3) rfl) (pa_cons (pe_ix ix_tup (pe_ix ix_list (pv 1) (pv 2) (fun _ _ => rfl)) pe_int (fun _ _ => rfl)) pa_nil))))) (pss_one (ps_ret pe_bl)) pss_nil))))))
      (pss_one (ps_ret pe_bl)))), ?_⟩
    refine ⟨_, rfl, V.ref p, .ty "list", .type "list", .type "list", true, rfl, .ty _, .base (.lst hp), by rfl, true, rfl, if_f rfl ?_⟩
    refine ⟨_, rfl, p, _, rfl, .inl (SqL.of hp), _, rfl, r, _, rfl, .inl (SqL.of hrr), rfl, _, rfl, if_f (by rw [List.length_map, List.length_map, tl, rl]; simp) ?_⟩
    refine ⟨fun σ' H' => (∃ v2 v3 : Option V, σ' = [some (.ref p), some (.ref r), v2, v3]) ∧ H = H', ?_, ?_⟩
    · refine ⟨_, rfl, r, _, rfl, .inl (SqL.of hrr), _, rfl, by rw [List.length_map]; omega, by rw [List.length_map]; omega, ?_⟩
      refine for_it (walk_range (lo := 0) (n := ((rs.map V.ref).length : Int).toNat)) (fun i σ' H' => (∃ v2 v3 : Option V, σ' = [some (.ref p), some (.ref r), v2, v3]) ∧ H = H') ⟨⟨_, _, rfl⟩, rfl⟩ (fun _ _ _ _ _ => trivial) ?_ ?_
      · rintro i x σ' H3 H4 hi ⟨⟨v2, v3, rfl⟩, rfl⟩ ⟨rfl, rfl⟩
        have hi : i < rows.length := by rw [List.length_map] at hi; omega
        obtain ⟨q, hq⟩ : ∃ q, rows[i]? = some q := ⟨_, List.getElem?_eq_getElem hi⟩
        obtain ⟨x, hx⟩ : ∃ x, ts[i]? = some x := ⟨_, List.getElem?_eq_getElem (by omega)⟩
        obtain ⟨y, hy⟩ : ∃ y, rs[i]? = some y := ⟨_, List.getElem?_eq_getElem (by omega)⟩
        obtain ⟨dx, fs, h1, m1, m2, m3, m4⟩ := ht i x q hx hq
        have wy := hrw i y q hy hq
        have ax : atI (ts.map V.ref) (0 + (i : Int)) = some (.ref x) := by rw [Int.zero_add]; exact atI_nat (by rw [List.getElem?_map, hx]; rfl)
        have ay : atI (rs.map V.ref) (0 + (i : Int)) = some (.ref y) := by rw [Int.zero_add]; exact atI_nat (by rw [List.getElem?_map, hy]; rfl)
        refine ⟨_, rfl, _, rfl, p, _, _, _, rfl, rfl, SqL.of hp, ax, ?_⟩
        refine ⟨_, rfl, x, CT, dx, fs, _, rfl, h1, TT.cl, TT.nP, m1, _, rfl, _, rfl, if_f rfl ?_⟩
        refine ⟨_, rfl, x, CT, dx, fs, _, rfl, h1, TT.cl, TT.nH, m2, _, rfl, _, rfl, if_f rfl ?_⟩
        refine ⟨_, rfl, x, CT, dx, fs, _, rfl, h1, TT.cl, TT.nP, m1, _, rfl, _, rfl, r, _, _, _, rfl, rfl, SqL.of hrr, ay, y, _, 0, _, rfl, rfl, SqT.of wy, rfl, rfl, _, rfl, if_f (by simp) ?_⟩
        refine ⟨_, rfl, x, CT, dx, fs, _, rfl, h1, TT.cl, TT.nH, m2, _, rfl, _, rfl, r, _, _, _, rfl, rfl, SqL.of hrr, ay, y, _, 1, _, rfl, rfl, SqT.of wy, rfl, rfl, _, rfl, if_f (by simp) ?_⟩
        refine ⟨_, rfl, x, CT, dx, fs, _, rfl, h1, TT.cl, TT.nR, m3, _, rfl, _, rfl, r, _, _, _, rfl, rfl, SqL.of hrr, ay, y, _, 2, _, rfl, rfl, SqT.of wy, rfl, _, _, rfl, _, rfl, if_f (by simp) ?_⟩
        exact ⟨⟨_, _, rfl⟩, rfl⟩
      · rintro σ' H3 ⟨⟨v2, v3, rfl⟩, rfl⟩
        exact ⟨⟨_, _, rfl⟩, rfl⟩
    rintro σ' H1 ⟨⟨v2, v3, rfl⟩, rfl⟩
    exact k
set_option maxHeartbeats 0 in
theorem ok_row {f fT : Addr} {fd fdT : FuncData} (F : Fun K "_law_row" "_law_row" sRow f fd) (GT : FnOk P w K mg base CX0 1 fT fdT ["_law_box_here", "_law_size"] spTake) (FT : Fun K "_law_take" "_law_take" sTake fT fdT) (bT : Binds K fdT ["_law_box_here", "_law_size"] []) (T : RowTxt mg fT) : FnOk P w K mg base CX0 2 f fd ["_law_box_here"] spRow := by
  refine F.ok scRow (fun vs H Q E h => ?_) (fun cdv A outer s H vs Q E hr h => ?_)
  · obtain ⟨b, l, rfl, _⟩ := h
    rfl
  · obtain ⟨b, l, rfl, B, k⟩ := h
    have hr1 : Room 1 _ := hr.mono (by decide)
    refine ⟨_, (C8.pss_cut (ps_set (i := 1) scRow.nd rfl (Or.inl rfl) (pe_lst pa_nil))
      (C8.pss_cut (ps_for PassesOwn.never rfl (pi_range1 (by rfl) T.b_range (pa_cons pe_int pa_nil)) (pg_name (i := 2) scRow.nd rfl (Or.inl rfl)) (C8.pss_cut (ps_set (i := 3) scRow.nd rfl (Or.inl rfl) (pe_op op_sub (pe_call GT hr1 rfl T.take FT.kp bT .nil pass0 (pa_cons (pv 0) (pa_cons pe_int pa_nil))) pe_int))
      (C8.pss_cut (ps_set (i := 4) scRow.nd rfl (Or.inl rfl) (pe_op op_mulW (pe_op op_sub pe_int (pe_op op_mulW pe_int (pe_call GT hr1 rfl T.take FT.kp bT .nil pass0 (pa_cons (pv 0) (pa_cons pe_int pa_nil))))) (pe_call GT hr1 rfl T.take FT.kp bT .nil pass0 (pa_cons (pv 0) (pa_cons (pe_op op_pow pe_int pe_int) pa_nil)))))
      (pss_one (ps_expr (pe_bm PySem.F.plainAttrs_list PySem.F.slot_list_append PySem.F.type_list_append mt_append (pv 1) (pa_cons (pe_ix ix_list (pe_lst (pa_cons (pv 3) (pa_cons (pv 4) pa_nil))) (pe_call GT hr1 rfl T.take FT.kp bT .nil pass0 (pa_cons (pv 0) (pa_cons pe_int pa_nil))) (fun _ _ => rfl)) pa_nil)))))))
      (pss_one (ps_ret (pe_tup (pa_cons (pe_ix ix_list (pv 1) pe_int (fun _ _ => rfl)) (pa_cons (pe_ix ix_list (pv 1) pe_int (fun _ _ => rfl)) (pa_cons (pe_cmpR op_eq (pe_call GT hr1 rfl T.take FT.kp bT .nil pass0 (pa_cons (pv 0) (pa_cons pe_int pa_nil))) pe_int (nomark _)) pa_nil)))))))), ?_⟩
    refine ⟨fun σ' H' => ∃ D : Addr, σ' = [some (.ref b), some (.ref D), none, none, none] ∧ Box H' b l ∧ SameB b H H' ∧ H D = none ∧ H' D = some (.lst (([] : List Int).map V.int)), ?_, ?_⟩
    · exact ⟨by show 0 ≤ sizeLine; decide, fun D hD => ⟨D, rfl, B.same (same_new hD), SameB.of_same (same_new hD), hD, upd_same⟩⟩
    rintro σ' H1 ⟨D, rfl, B1, S1, hD, e1⟩
    refine ⟨fun σ' H' => ∃ (ns : List Int) (v2 v3 v4 : Option V), σ' = [some (.ref b), some (.ref D), v2, v3, v4] ∧ Box H' b l ∧ SameB b H H' ∧ H' D = some (.lst (ns.map V.int)) ∧ ns.length = 2 ∧ ∀ z ∈ ns, z.natAbs < 10 ^ 40, ?_, ?_⟩
    · refine ⟨2, rfl, by decide, by decide, ?_⟩
      refine for_it (walk_range (lo := 0) (n := 2)) (fun i σ' H' => ∃ (ns : List Int) (v2 v3 v4 : Option V), σ' = [some (.ref b), some (.ref D), v2, v3, v4] ∧ Box H' b l ∧ SameB b H H' ∧ H' D = some (.lst (ns.map V.int)) ∧ ns.length = i ∧ ∀ z ∈ ns, z.natAbs < 10 ^ 40) ⟨[], _, _, _, rfl, B1, S1, e1, rfl, fun z hz => (nomatch hz)⟩ (fun _ _ _ _ _ => trivial) ?_ (fun σ' H' h => h)
      rintro i x σ' H2 H3 hi ⟨ns, v2, v3, v4, rfl, B3, S3, e3, nl, nb⟩ ⟨rfl, rfl⟩
      refine ⟨fun σ' H' => ∃ sm : Int, σ' = [some (.ref b), some (.ref D), some (V.int (0 + (i : Int))), some (.int sm), v4] ∧ sm.natAbs < 10 ^ 40 ∧ Box H' b l ∧ SameB b H H' ∧ H' D = some (.lst (ns.map V.int)), ?_, ?_⟩
      · refine ⟨_, rfl, b, l, 19, rfl, B3, by decide, by decide, fun y H4 y0 y1 B4 k4 => ⟨_, _, rfl, rfl, _, rfl, ?_, B4, S3.trans (SameB.of k4), by rw [k4 _ (B3.neZ e3)]; exact e3⟩⟩
        exact Nat.lt_of_le_of_lt (show (y - 9).natAbs ≤ 100 by omega) (by decide +kernel)
      rintro σ' H4 ⟨sm, rfl, sb, B4, S4, e4⟩
      refine ⟨fun σ' H' => ∃ gr : Int, σ' = [some (.ref b), some (.ref D), some (V.int (0 + (i : Int))), some (.int sm), some (.int gr)] ∧ gr.natAbs < 10 ^ 40 ∧ Box H' b l ∧ SameB b H H' ∧ H' D = some (.lst (ns.map V.int)), ?_, ?_⟩
      · refine ⟨_, rfl, b, l, 2, rfl, B4, by decide, by decide, fun y H5 y0 y1 B5 k5 => ?_⟩
        refine ⟨_, _, rfl, rfl, wide_mul (a := 8) (b := 8) (by decide) (show y.natAbs < 256 by omega) (by decide) (by decide) (by decide), _, _, rfl, rfl, _, rfl, _, _, rfl, rfl, pow_ok (by decide), b, l, _, rfl, B5, by decide +kernel, size_fit (by decide +kernel) (by decide +kernel), fun g H6 g0 g1 B6 k6 => ?_⟩
        have g1 : g < 10 ^ 40 := g1
        have ga : g.natAbs < 10 ^ 40 := by omega
        refine ⟨_, _, rfl, rfl, wide_mul (a := 8) (b := 300) (show (1 - 2 * y).natAbs < 256 by omega) (Nat.lt_of_lt_of_le ga (by decide +kernel)) (by decide) (by decide) (by decide), _, rfl, ?_, B6, (S4.trans (SameB.of k5)).trans (SameB.of k6), ?_⟩
        · have : y = 0 ∨ y = 1 := by omega
          rcases this with rfl | rfl
          · omega
          · omega
        · have e5 : H5 D = some (.lst (ns.map V.int)) := by rw [k5 _ (B4.neZ e4)]; exact e4
          rw [k6 _ (B5.neZ e5)]
          exact e5
      rintro σ' H5 ⟨gr, rfl, gb, B5, S5, e5⟩
      refine ⟨_, rfl, .inl ⟨rfl, _, SqL.of e5⟩, _, rfl, _, rfl, by show 2 ≤ sizeLine; decide, fun L hL => ?_⟩
      have sL := same_new (o := .lst [V.int sm, V.int gr]) hL
      have eL : upd H5 L (.lst [V.int sm, V.int gr]) L = some (.lst (([sm, gr] : List Int).map V.int)) := upd_same
      have B6 := B5.same sL
      have e6 := sL _ _ e5
      have S6 : SameB b H (upd H5 L (.lst [V.int sm, V.int gr])) := S5.trans (SameB.of_same sL)
      generalize upd H5 L (.lst [V.int sm, V.int gr]) = H6 at sL eL B6 e6 S6 ⊢
      refine ⟨_, rfl, b, l, 2, rfl, B6, by decide, by decide, fun z H7 z0 z1 B7 k7 => ?_⟩
      obtain ⟨v, hv, vb⟩ : ∃ v : Int, atI (([sm, gr] : List Int).map V.int) z = some (.int v) ∧ v.natAbs < 10 ^ 40 := by
        have : z = 0 ∨ z = 1 := by omega
        rcases this with rfl | rfl
        · exact ⟨sm, rfl, sb⟩
        · exact ⟨gr, rfl, gb⟩
      have e7 : H7 D = some (.lst (ns.map V.int)) := by rw [k7 _ (B6.neZ e6)]; exact e6
      refine ⟨L, _, z, _, rfl, rfl, SqL.of (by rw [k7 _ (B6.neZ eL)]; exact eL), hv, D, _, _, rfl, rfl, e7, small1000 (by rw [List.length_map]; omega), ns ++ [v], _, _, _, rfl, B7.at (B.free hD), fun c o n e => ?_, by rw [upd_same, List.map_append]; rfl, by rw [List.length_append, nl]; rfl, fun y hy => ?_⟩
      · rw [upd_ne (ne_of_none e hD)]
        exact SameB.of k7 _ _ n (S6 _ _ n e)
      · rcases List.mem_append.mp hy with h | h
        · exact nb y h
        · rw [List.mem_singleton] at h
          rw [h]
          exact vb
    rintro σ' H2 ⟨ns, v2, v3, v4, rfl, B2, S2, e2, nl, nb⟩
    match ns, nl, nb, e2 with
    | [p, h], _, nb, e2 =>
      refine ⟨_, rfl, D, _, 0, _, rfl, rfl, SqL.of e2, rfl, _, rfl, D, _, 1, _, rfl, rfl, SqL.of e2, rfl, _, rfl, b, l, 2, rfl, B2, by decide, by decide, fun y H3 y0 y1 B3 k3 => ⟨rfl, by show 3 ≤ sizeLine; decide, fun t ht => ?_⟩⟩
      have S3 : SameB b H H3 := S2.trans (SameB.of k3)
      have ht0 : H t = none := by
        cases e : H t with
        | none => rfl
        | some o =>
          have nb' : t ≠ b := fun z => by
            obtain ⟨_, _, _, _, q1, _⟩ := B3
            rw [z, q1] at ht
            cases ht
          rw [S3 _ _ nb' e] at ht
          cases ht
      exact k (p, h, decide (V.int y = V.int 1)) t _ ⟨nb p List.mem_cons_self, nb h (List.mem_cons_of_mem _ List.mem_cons_self)⟩ ht0 upd_same (B3.same (same_new ht)) (S3.trans (SameB.of_same (same_new ht)))
end
end Law

/-! The law. -/
namespace Law
open PySem PySem.Spec PyProof.Rows L2 SX NumText ItSeq
abbrev sLaw : Stmt := top 23
structure LwTxt (mg : Str → Option Value) (CT fB fT fRw fLn fSm fWr fRd : Addr) : Prop where
  box : mg "_law_box" = some (.ref fB)
  take : mg "_law_take" = some (.ref fT)
  row : mg "_law_row" = some (.ref fRw)
  line : mg "_law_line" = some (.ref fLn)
  same : mg "_law_same" = some (.ref fSm)
  wr : mg "write_trials" = some (.ref fWr)
  rd : mg "read_trials" = some (.ref fRd)
  tri : mg "Trial" = some (.ref CT)
  b_len : mg "len" = none
  b_range : mg "range" = none
  b_isinstance : mg "isinstance" = none
  b_str : mg "str" = none
  b_tuple : mg "tuple" = none
theorem hu64 {k : Nat} {A : Around} (hr : Room k A) : A.units + 64 < cLine := by have := hr.un; omega
theorem RwsAt.draw {H H' : Hp} {b l : Addr} {rs : List Addr} {rows : List LRow} (h : RwsAt H rs rows) (B : Box H b l) (s : SameB b H H') : RwsAt H' rs rows := ⟨h.1, fun i t q e1 e2 => s _ _ (B.neT (h.2 i t q e1 e2)) (h.2 i t q e1 e2)⟩
theorem RwsAt.app {H : Hp} {ts : List Addr} {rows : List LRow} {x : Addr} {q : LRow} (h : RwsAt H ts rows) (hx : H x = some (.tup (rowV q))) : RwsAt H (ts ++ [x]) (rows ++ [q]) := by
  refine ⟨by rw [List.length_append, List.length_append, h.1]; rfl, fun i t r e1 e2 => ?_⟩
  by_cases c : i < ts.length
  · rw [List.getElem?_append_left c] at e1
    rw [List.getElem?_append_left (by rw [← h.1]; exact c)] at e2
    exact h.2 i t r e1 e2
  · rw [List.getElem?_append_right (by omega)] at e1
    rw [List.getElem?_append_right (by rw [← h.1]; omega), ← h.1] at e2
    have : i - ts.length = 0 := by
      have := (List.getElem?_eq_some_iff.mp e1).1
      have this : i - ts.length < 1 := this
      omega
    rw [this] at e1 e2
    cases e1
    cases e2
    exact hx
theorem fresh_D {H : Hp} {D x : Addr} {xs : List V} {q : LRow} (hD : H D = some (.lst xs)) (hx : H x = some (.tup (rowV q))) : x ≠ D := fun z => by
  rw [z, hD] at hx
  cases hx
def spLaw (K : PySem.W.Frag) : Sp := fun vs H Q _ => ∃ (a : Addr) (ns : List Int), vs = [.ref a] ∧ SqL K H a (ns.map V.int) ∧ ns.length ≤ 63 ∧ ∀ H', Q (.bl true) H'
section
variable {P : Program} {w : World} {K : PySem.W.Frag} {mg : Str → Option Value} {base : Heap} {CT : Addr}
theorem scLaw : FnScope ["_law_script", "_law_box_here", "_law_rows", "_law_k", "_law_trials", "_law_row_here", "_law_text", "_law_back"] ["_law_script"] (defScope sLaw) := ⟨rfl, rfl, rfl, by decide +kernel, rfl, by decide +kernel, by decide +kernel⟩
set_option maxHeartbeats 0 in
theorem ok_law {f fB fT fRw fLn fSm fWr fRd fI fQ : Addr} {fd fdB fdT fdRw fdLn fdSm fdWr fdRd fdQ : FuncData} (F : Fun K "law" "law" sLaw f fd) (T : LwTxt mg CT fB fT fRw fLn fSm fWr fRd)
    (GB : FnOk P w K mg base CX0 1 fB fdB ["_law_script"] (spBox K)) (FB : Fun K "_law_box" "_law_box" sBox fB fdB) (bB : Binds K fdB ["_law_script"] [])
    (GT : FnOk P w K mg base CX0 1 fT fdT ["_law_box_here", "_law_size"] spTake) (FT : Fun K "_law_take" "_law_take" sTake fT fdT) (bT : Binds K fdT ["_law_box_here", "_law_size"] [])
    (GRw : FnOk P w K mg base CX0 2 fRw fdRw ["_law_box_here"] spRow) (FRw : Fun K "_law_row" "_law_row" sRow fRw fdRw) (bRw : Binds K fdRw ["_law_box_here"] [])
    (GLn : FnOk P w K mg base CX0 1 fLn fdLn ["_law_row_here"] spLin) (FLn : Fun K "_law_line" "_law_line" sLin fLn fdLn) (bLn : Binds K fdLn ["_law_row_here"] [])
    (GSm : FnOk P w K mg base CX0 2 fSm fdSm ["_law_trials", "_law_rows"] (spSam CT)) (FSm : Fun K "_law_same" "_law_same" sSam fSm fdSm) (bSm : Binds K fdSm ["_law_trials", "_law_rows"] [])
    (GWr : FnOk P w K mg base CX0 3 fWr fdWr ["trials"] (spWr K CT)) (FWr : Fun K "write_trials" "write_trials" sWr fWr fdWr) (bWr : Binds K fdWr ["trials"] [])
    (GRd : FnOk P w K mg base CX0 3 fRd fdRd ["text"] (spRd CT)) (FRd : Fun K "read_trials" "read_trials" sRd fRd fdRd) (bRd : Binds K fdRd ["text"] [])
    (MKT : Mk K CT fI) (GTi : FnR P w K mg base CX0 1 fI (spTini CT))
    (GQ : FnOk P w K mg base CX0 1 fQ fdQ ["self", "other"] (spEq (RTri CT))) (hsQ : PySem.W.findIn K (.ref CT) "__eq__" = some (some (.ref fQ))) (hfQ : PySem.W.isFn K (.ref fQ) = true) (bQ : Binds K fdQ ["self", "other"] []) : FnOk P w K mg base CX0 5 f fd ["_law_script"] (spLaw K) := by
  refine F.ok scLaw (fun vs H Q E h => ?_) (fun cdv A outer s H vs Q E hr h => ?_)
  · obtain ⟨a, ns, rfl, _⟩ := h
    rfl
  · obtain ⟨a, ns, rfl, h1, h2, h3⟩ := h
    have hr3 : Room 3 _ := hr.mono (by decide)
    have hr2 : Room 2 _ := hr.mono (by decide)
    have hr1 : Room 1 _ := hr.mono (by decide)
    have szf : ∀ {z : Int}, 0 ≤ z → z ≤ 1000 → z.natAbs < 2 ^ 8000 := fun {z} a b => Nat.lt_of_le_of_lt (show z.natAbs ≤ 1000 by omega) (by decide +kernel)
    refine ⟨_, (pss_cons (ps_set (i := 1) scLaw.nd rfl (Or.inr rfl) (pe_call GB hr1 rfl T.box FB.kp bB .nil pass0 (pa_cons (pv 0) pa_nil)))
      (C8.pss_cut (ps_setLc (i := 2) (own := [("_law_k", 3)]) (g := gName 3) (tt := tYes) (by rfl) scLaw.nd rfl rfl (sw_true rfl rfl rfl (by decide +kernel)) (pi_range1 (by rfl) T.b_range (pa_cons (pe_call GT hr1 rfl T.take FT.kp bT .nil pass0 (pa_cons (pv 1) (pa_cons pe_int pa_nil))) pa_nil)) (blkOk_by (own := [("_law_k", 3)]) (N := ["_law_script", "_law_box_here", "_law_rows", "_law_k", "_law_trials", "_law_row_here", "_law_text", "_law_back"]) (sc := defScope sLaw) (by decide +kernel)) (fun _ _ _ _ _ => pg_name (i := 3) scLaw.nd rfl (Or.inl rfl)) (fun _ _ _ _ _ => pts_nil) (fun _ _ _ _ _ => by exact (pe_call GRw hr2 rfl T.row FRw.kp bRw .nil pass0 (pa_cons (pv 1) pa_nil))))
      (C8.pss_cut (ps_if (PW.pt (pw_and (pt_cmpR op_gt (pe_callB call_len_seq (by rfl) T.b_len PySem.boot_len (pa_cons (pv 2) pa_nil)) pe_int (nomark _)) (pw_and1 (pt_cmpR op_eq (pe_call GT hr1 rfl T.take FT.kp bT .nil pass0 (pa_cons (pv 1) (pa_cons pe_int pa_nil))) pe_int (nomark _))))) (pss_one (ps_expr (pe_bm PySem.F.plainAttrs_list PySem.F.slot_list_append PySem.F.type_list_append mt_append (pv 2) (pa_cons (pe_ix ix_list (pv 2) (pe_call GT hr1 rfl T.take FT.kp bT .nil pass0 (pa_cons (pv 1) (pa_cons (pe_callB call_len_seq (by rfl) T.b_len PySem.boot_len (pa_cons (pv 2) pa_nil)) pa_nil))) (fun _ _ => rfl)) pa_nil)))) pss_nil)
      (C8.pss_cut (ps_setLc (i := 4) (own := [("_law_row_here", 5)]) (g := gName 5) (tt := tYes) (by rfl) scLaw.nd rfl rfl (sw_true rfl rfl rfl (by decide +kernel)) (pi_list (pv 2)) (blkOk_by (own := [("_law_row_here", 5)]) (N := ["_law_script", "_law_box_here", "_law_rows", "_law_k", "_law_trials", "_law_row_here", "_law_text", "_law_back"]) (sc := defScope sLaw) (by decide +kernel)) (fun _ _ _ _ _ => pg_name (i := 5) scLaw.nd rfl (Or.inl rfl)) (fun _ _ _ _ _ => pts_nil) (fun _ _ _ _ _ => by exact (Own.pe_makeS (E := fun _ => E0) MKT GTi hr2 rfl T.tri (passS pass0) (pa_cons (pe_ix (r := rIxT K) ix_tup (pv 5) pe_int (fun _ _ => rfl)) (pa_cons (pe_ix (r := rIxT K) ix_tup (pv 5) pe_int (fun _ _ => rfl)) (pa_cons (pe_ix (r := rIxT K) ix_tup (pv 5) pe_int (fun _ _ => rfl)) pa_nil))))))
      (C8.pss_cut (ps_set (i := 6) scLaw.nd rfl (Or.inl rfl) (pe_call GWr hr3 rfl T.wr FWr.kp bWr .nil pass0 (pa_cons (pv 4) pa_nil)))
      (C8.pss_cut (ps_if (PW.pt (pw_or (pt_not (pt_val (pe_callB call_isi (by rfl) T.b_isinstance (by decide +kernel) (pa_cons (pv 6) (pa_cons (pe_bltn (v := .ty "str") (by rfl) T.b_str (by decide +kernel) rfl) pa_nil))))) (pw_or1 (pt_cmpR op_ne (pv 6) (pe_join pe_str (pe_lc (own := [("_law_row_here", 5)]) (g := gName 5) (tt := tYes) (by rfl) scLaw.nd (pi_list (pv 2)) (blkOk_by (own := [("_law_row_here", 5)]) (N := ["_law_script", "_law_box_here", "_law_rows", "_law_k", "_law_trials", "_law_row_here", "_law_text", "_law_back"]) (sc := defScope sLaw) (by decide +kernel)) (fun _ _ _ _ _ => pg_name (i := 5) scLaw.nd rfl (Or.inl rfl)) (fun _ _ _ _ _ => pts_nil) (fun _ _ _ _ _ => by exact (pe_call GLn hr1 rfl T.line FLn.kp bLn .nil pass0 (pa_cons (pv 5) pa_nil))))) (nomark _))))) (pss_one (ps_ret pe_bl)) pss_nil)
      (C8.pss_cut (ps_set (i := 7) scLaw.nd rfl (Or.inl rfl) (pe_call GRd hr3 rfl T.rd FRd.kp bRd .nil pass0 (pa_cons (pv 6) pa_nil)))
      (C8.pss_cut (ps_if (PW.pt (pw_or (pt_not (pt_val (pe_call GSm hr2 rfl T.same FSm.kp bSm .nil pass0 (pa_cons (pv 7) (pa_cons (pv 2) pa_nil))))) (pw_or (pt_not (pt_val (pe_call GSm hr2 rfl T.same FSm.kp bSm .nil pass0 (pa_cons (pv 4) (pa_cons (pv 2) pa_nil))))) (pw_or1 (pt_cmpR (NeG.op_neG (mon_ins RTri.mon) (eqG_ins GQ hsQ hfQ bQ pass0) hr2) (pv 7) (pv 4) (nomark _)))))) (pss_one (ps_ret pe_bl)) pss_nil)
      (C8.pss_cut (ps_if (pt_cmpR op_ne (pe_call GWr hr3 rfl T.wr FWr.kp bWr .nil pass0 (pa_cons (pe_callTy call_tuple_of (by rfl) T.b_tuple (by decide +kernel) (pa_cons (pv 7) pa_nil)) pa_nil)) (pv 6) (nomark _)) (pss_one (ps_ret pe_bl)) pss_nil)
      (C8.pss_cut (ps_for PassesOwn.never rfl (pi_list (pv 2)) (pg_name (i := 5) scLaw.nd rfl (Or.inl rfl)) (pss_one (ps_if (pt_not (pt_val (pe_call GSm hr2 rfl T.same FSm.kp bSm .nil pass0 (pa_cons (pe_call GRd hr3 rfl T.rd FRd.kp bRd .nil pass0 (pa_cons (pe_call GLn hr1 rfl T.line FLn.kp bLn .nil pass0 (pa_cons (pv 5) pa_nil)) pa_nil)) (pa_cons (pe_lst (pa_cons (pv 5) pa_nil)) pa_nil))))) (pss_one (ps_ret pe_bl)) pss_nil)))
      (pss_one (ps_ret (pe_and (pe_cmpR (op_eqD (hu64 hr)) (pe_call GRd hr3 rfl T.rd FRd.kp bRd .nil pass0 (pa_cons pe_str pa_nil)) (pe_lst pa_nil) (nomark _)) (pe_one (pe_cmpR op_eq (pe_call GWr hr3 rfl T.wr FWr.kp bWr .nil pass0 (pa_cons (pe_tup pa_nil) pa_nil)) pe_str (nomark _)))))))))))))))), ?_⟩
    refine ⟨_, rfl, a, ns, rfl, h1, h2, fun b l H1 B1 nb nl s1 => ?_⟩
    clear s1 nb nl
    refine ⟨fun σ' H' => ∃ (D : Addr) (rs : List Addr) (rows : List LRow), σ' = [some (.ref a), some (.ref b), some (.ref D), none, none, none, none, none] ∧ Box H' b l ∧ H' D = some (.lst (rs.map V.ref)) ∧ RwsAt H' rs rows ∧ (∀ q ∈ rows, RowOk q) ∧ rows.length ≤ 10 ∧ b ≠ D ∧ l ≠ D, ?_, ?_⟩
    · refine ⟨_, rfl, b, l, 10, rfl, B1, by decide, by decide, fun cnt H2 c0 c1 B2 k2 => ⟨_, rfl, by omega, by omega, fun D hD => ?_⟩⟩
      have fr := B2.free hD
      refine lc_it (walk_range (lo := 0) (n := cnt.toNat)) (fun i H' => Box H' b l ∧ ∃ (rs : List Addr) (rows : List LRow), H' D = some (.lst (rs.map V.ref)) ∧ RwsAt H' rs rows ∧ (∀ q ∈ rows, RowOk q) ∧ rows.length = i) ⟨B2.same (same_new hD), [], [], upd_same, ⟨rfl, fun i t q e => nomatch e⟩, fun q hq => (nomatch hq), rfl⟩ (fun _ _ _ _ => trivial) ?_ ?_
      · rintro i x H3 H4 hi ⟨B4, rs, rows, e4, r4, o4, l4⟩ ⟨rfl, rfl⟩
        refine ⟨rfl, _, rfl, b, l, rfl, B4, fun q t H5 qo t0 et B5 S5 => ?_⟩
        have e5 := S5 _ _ (B4.neL3 e4) e4
        have r5 := r4.draw B4 S5
        refine ⟨_, e5, small1000 (by rw [List.length_map, r4.1]; omega), B5.at fr, rs ++ [t], rows ++ [q], by rw [upd_same, List.map_append]; rfl, ?_, fun y hy => ?_, by rw [List.length_append, l4]; rfl⟩
        · have := r5.app et
          exact ⟨this.1, fun j y r e1 e2 => by rw [upd_ne (fresh_D e5 (this.2 j y r e1 e2))]; exact this.2 j y r e1 e2⟩
        · rcases List.mem_append.mp hy with h | h
          · exact o4 y h
          · rw [List.mem_singleton] at h
            rw [h]
            exact qo
      · rintro H3 ⟨B3, rs, rows, e3, r3, o3, l3⟩
        exact ⟨D, rs, rows, rfl, B3, e3, r3, o3, by omega, fr.1, fr.2⟩
    rintro σ' H2 ⟨D, rs, rows, rfl, B2, e2, r2, o2, l2, fr1, fr2⟩
    refine ⟨fun σ' H' => ∃ (rs : List Addr) (rows : List LRow), σ' = [some (.ref a), some (.ref b), some (.ref D), none, none, none, none, none] ∧ H' D = some (.lst (rs.map V.ref)) ∧ RwsAt H' rs rows ∧ (∀ q ∈ rows, RowOk q) ∧ rows.length ≤ 11, ?_, ?_⟩
    · refine ⟨_, rfl, D, _, rfl, .inl (SqL.of e2), _, _, rfl, rfl, _, rfl, ite2 (fun g => ?_) (fun g => ⟨rs, rows, rfl, e2, r2, o2, by omega⟩)⟩
      have g : ((rs.map V.ref).length : Int) > 0 := of_decide_eq_true g
      rw [List.length_map] at g
      have rl := r2.1
      refine ⟨_, rfl, b, l, 2, rfl, B2, by decide, by decide, fun y H3 y0 y1 B3 k3 => ?_⟩
      have e3 : H3 D = some (.lst (rs.map V.ref)) := by rw [k3 _ fun z => fr1 z.symm]; exact e2
      have r3 := r2.draw B2 (SameB.of k3)
      refine ⟨rfl, _, rfl, ite2 (fun g2 => ?_) (fun g2 => ⟨rs, rows, rfl, e3, r3, o2, by omega⟩)⟩
      refine ⟨_, rfl, .inl ⟨rfl, _, SqL.of e3⟩, _, rfl, _, rfl, _, rfl, D, _, rfl, .inl (SqL.of e3), b, l, _, rfl, B3, by rw [List.length_map]; omega, by rw [List.length_map]; exact szf (by omega) (by omega), fun z H4 z0 z1 B4 k4 => ?_⟩
      rw [List.length_map] at z1
      have e4 : H4 D = some (.lst (rs.map V.ref)) := by rw [k4 _ fun z => fr1 z.symm]; exact e3
      have r4 := r3.draw B3 (SameB.of k4)
      obtain ⟨x, hx⟩ : ∃ x, rs[z.toNat]? = some x := ⟨_, List.getElem?_eq_getElem (by omega)⟩
      obtain ⟨q, hq⟩ : ∃ q, rows[z.toNat]? = some q := ⟨_, List.getElem?_eq_getElem (by omega)⟩
      have wx := r4.2 _ _ _ hx hq
      have ax : atI (rs.map V.ref) z = some (.ref x) := by
        obtain ⟨j, rfl⟩ := Int.eq_ofNat_of_zero_le z0
        exact atI_nat (by rw [List.getElem?_map]; exact congrArg (Option.map V.ref) hx)
      refine ⟨D, _, z, _, rfl, rfl, SqL.of e4, ax, D, _, _, rfl, rfl, e4, small1000 (by rw [List.length_map]; omega), rs ++ [x], rows ++ [q], rfl, by rw [upd_same, List.map_append]; rfl, ?_, fun y hy => ?_, by rw [List.length_append]; show rows.length + 1 ≤ 11; omega⟩
      · have := r4.app wx
        exact ⟨this.1, fun j y r e1 e2 => by rw [upd_ne (fresh_D e4 (this.2 j y r e1 e2))]; exact this.2 j y r e1 e2⟩
      · rcases List.mem_append.mp hy with h | h
        · exact o2 y h
        · rw [List.mem_singleton] at h
          rw [h]
          exact o2 q (List.mem_of_getElem? hq)
    clear e2 r2 o2 l2 rs rows B2
    rintro σ' H3 ⟨rs, rows, rfl, e3, r3, o3, l3⟩
    have rl := r3.1
    refine ⟨fun σ' H' => ∃ (U : Addr) (ts : List Addr), σ' = [some (.ref a), some (.ref b), some (.ref D), none, some (.ref U), none, none, none] ∧ H' U = some (.lst (ts.map V.ref)) ∧ TrsAt CT H' ts rows ∧ Same H3 H', ?_, ?_⟩
    · refine ⟨_, rfl, D, rfl, ⟨_, SqL.of e3⟩, fun U hU => ?_⟩
      refine lc_it (walk_list (xs := rs.map V.ref)) (fun i H' => ∃ ts : List Addr, H' U = some (.lst (ts.map V.ref)) ∧ TrsAt CT H' ts (rows.take i) ∧ Same H3 H') ⟨[], upd_same, ⟨rfl, fun i t q e => nomatch e⟩, same_new hU⟩ (fun _ _ _ h => by obtain ⟨_, _, _, S⟩ := h; exact SqL.of (S _ _ e3)) ?_ ?_
      · rintro i y H4 H5 hi ⟨ts, u1, u2, u3⟩ ⟨rfl, hy⟩
        rw [List.length_map] at hi
        rw [List.getElem?_map, List.getElem?_eq_getElem hi] at hy
        cases hy
        obtain ⟨q, hq⟩ : ∃ q, rows[i]? = some q := ⟨_, List.getElem?_eq_getElem (by omega)⟩
        have wx := u3 _ _ (r3.2 i _ q (List.getElem?_eq_getElem hi) hq)
        refine ⟨rfl, _, rfl, rs[i], _, 0, _, rfl, rfl, SqT.of wx, rfl, _, rfl, rs[i], _, 1, _, rfl, rfl, SqT.of wx, rfl, _, rfl, rs[i], _, 2, _, rfl, rfl, SqT.of wx, rfl, mk_tri fun x H6 hx S6 hX => ?_⟩
        have d6 := S6 _ _ u1
        have nx : x ≠ U := fun z => by rw [z, u1] at hx; cases hx
        have kx : ∀ {c : Addr} {cl dx : Addr} {fs : List (Str × V)}, H6 c = some (.ins cl dx fs) → c ≠ U := fun h z => by rw [z, d6] at h; cases h
        have tup : ∀ {c : Addr} {p h : Int} {r : Bool}, Tri CT H6 c p h r → Tri CT (upd H6 U (.lst ((ts ++ [x]).map V.ref))) c p h r := fun {c p h r} t => by
          obtain ⟨dx, fs, h1, h2⟩ := t
          exact ⟨dx, fs, by rw [upd_ne (kx h1)]; exact h1, h2⟩
        have lt := u2.1
        rw [List.length_take] at lt
        refine ⟨_, d6, small1000 (by rw [List.length_map]; omega), ts ++ [x], by rw [upd_same, List.map_append]; rfl, ?_, fun c o e => ?_⟩
        · rw [List.take_succ, hq]
          rw [show ts.map V.ref ++ [V.ref x] = (ts ++ [x]).map V.ref by rw [List.map_append]; rfl]
          have := (u2.same S6).app (q := q) hX
          exact ⟨this.1, fun j y r e1 e2 => tup (this.2 j y r e1 e2)⟩
        · rw [upd_ne (ne_of_none e hU)]
          exact S6 _ _ (u3 _ _ e)
      · rintro H4 ⟨ts, u1, u2, u3⟩
        rw [List.length_map, rl, List.take_length] at u2
        exact ⟨U, ts, rfl, u1, u2, u3⟩
    rintro σ' H4 ⟨U, ts, rfl, e4, t4, S4⟩
    have d4 := S4 _ _ e3
    have r4 := r3.same S4
    clear e3 r3 S4
    refine ⟨fun σ' H' => σ' = [some (.ref a), some (.ref b), some (.ref D), none, some (.ref U), none, some (.str (S (textL rows))), none] ∧ Same H4 H', ?_, ?_⟩
    · exact ⟨_, rfl, U, ts, rows, rfl, .inl (SqL.of e4), t4, o3, by omega, fun H5 S5 => ⟨rfl, S5⟩⟩
    rintro σ' H5 ⟨rfl, S5⟩
    have e5 := S5 _ _ e4
    have t5 := t4.same S5
    have d5 := S5 _ _ d4
    have r5 := r4.same S5
    clear e4 t4 d4 r4 S5
    have e10 : (Str.ofString "\n" : Str) = S [10] := by decide +kernel
    refine ⟨fun σ' H' => σ' = [some (.ref a), some (.ref b), some (.ref D), none, some (.ref U), none, some (.str (S (textL rows))), none] ∧ Same H5 H', ?_, ?_⟩
    · refine ⟨_, rfl, V.str (S (textL rows)), .ty "str", .type "str", .type "str", true, rfl, .ty _, .base (.str _), by rfl, true, rfl, if_f rfl ?_⟩
      refine ⟨_, rfl, ⟨_, rfl⟩, _, rfl, D, rfl, ⟨_, SqL.of d5⟩, fun M hM => ?_⟩
      refine lc_it (walk_list (xs := rs.map V.ref)) (fun i H' => H' M = some (.lst (((rows.take i).map fun q => S (lineL q)).map V.str)) ∧ Same H5 H') ⟨by rw [List.take_zero]; exact upd_same, same_new hM⟩ (fun _ _ _ h => SqL.of (h.2 _ _ d5)) ?_ ?_
      · rintro i y H6 H7 hi ⟨u1, u3⟩ ⟨rfl, hy⟩
        rw [List.length_map] at hi
        rw [List.getElem?_map, List.getElem?_eq_getElem hi] at hy
        cases hy
        obtain ⟨q, hq⟩ : ∃ q, rows[i]? = some q := ⟨_, List.getElem?_eq_getElem (by omega)⟩
        have wx := u3 _ _ (r5.2 i _ q (List.getElem?_eq_getElem hi) hq)
        refine ⟨rfl, _, rfl, rs[i], q, rfl, wx, o3 q (List.mem_of_getElem? hq), fun H8 S8 => ⟨_, S8 _ _ u1, small1000 (by rw [List.length_map, List.length_map, List.length_take]; omega), ?_, fun c o e => ?_⟩⟩
        · rw [upd_same, List.take_succ, hq, List.map_append, List.map_append]
          rfl
        · rw [upd_ne (ne_of_none e hM)]
          exact S8 _ _ (u3 _ _ e)
      · rintro H6 ⟨u1, u3⟩
        rw [List.length_map, rl, List.take_length] at u1
        refine ⟨_, M, rows.map fun q => S (lineL q), rfl, rfl, .inl (SqL.of u1), ?_, ?_⟩
        · have := lines_sum o3
          rw [e10, List.length_map, S_len]
          show _ + rows.length * 1 ≤ 16777216
          omega
        · rw [e10, show (rows.map fun q => S (lineL q)) = (rows.map lineL).map S by rw [List.map_map]; rfl, join_S]
          exact ⟨rfl, _, rfl, if_f (by show (!decide (V.str (S (textL rows)) = V.str (S (textL rows)))) = false; simp) ⟨rfl, u3⟩⟩
    rintro σ' H6 ⟨rfl, S6⟩
    have e6 := S6 _ _ e5
    have t6 := t5.same S6
    have d6 := S6 _ _ d5
    have r6 := r5.same S6
    clear e5 t5 d5 r5 S6
    refine ⟨fun σ' H' => ∃ (W : Addr) (us : List Addr), σ' = [some (.ref a), some (.ref b), some (.ref D), none, some (.ref U), none, some (.str (S (textL rows))), some (.ref W)] ∧ Same H6 H' ∧ H' W = some (.lst (us.map V.ref)) ∧ TrsAt CT H' us rows, ?_, ?_⟩
    · exact ⟨_, rfl, rows, rfl, o3, by omega, fun W us H7 nW S7 eW tW => ⟨W, us, rfl, S7, eW, tW⟩⟩
    rintro σ' H7 ⟨W, us, rfl, S7, eW7, tW7⟩
    have e7 := S7 _ _ e6
    have t7 := t6.same S7
    have d7 := S7 _ _ d6
    have r7 := r6.same S7
    clear e6 t6 d6 r6 S7
    refine ⟨fun σ' H' => σ' = [some (.ref a), some (.ref b), some (.ref D), none, some (.ref U), none, some (.str (S (textL rows))), some (.ref W)] ∧ Same H7 H', ?_, ?_⟩
    · refine ⟨_, rfl, _, rfl, W, D, us, rs, rows, rfl, eW7, tW7, d7, r7, by omega, _, rfl, if_f rfl ?_⟩
      refine ⟨_, rfl, _, rfl, U, D, ts, rs, rows, rfl, e7, t7, d7, r7, by omega, _, rfl, if_f rfl ?_⟩
      exact ⟨_, rfl, _, rfl, trs_eq eW7 e7 tW7 t7, fun H8 S8 => ⟨_, rfl, if_f rfl ⟨rfl, S8⟩⟩⟩
    rintro σ' H8 ⟨rfl, S8⟩
    have eW8 := S8 _ _ eW7
    have tW8 := tW7.same S8
    have d8 := S8 _ _ d7
    have r8 := r7.same S8
    clear eW7 tW7 d7 r7 e7 t7 S8
    refine ⟨fun σ' H' => σ' = [some (.ref a), some (.ref b), some (.ref D), none, some (.ref U), none, some (.str (S (textL rows))), some (.ref W)] ∧ Same H8 H', ?_, ?_⟩
    · refine ⟨_, rfl, W, _, rfl, .inl ⟨SqL.of eW8, fun X hX => ?_⟩⟩
      have s9 := same_new (o := .tup (us.map V.ref)) hX
      refine ⟨X, us, rows, rfl, .inr (SqT.of upd_same), tW8.same s9, o3, by omega, fun H9 S9 => ?_⟩
      exact ⟨_, rfl, rfl, _, rfl, if_f (by show (!decide (V.str (S (textL rows)) = V.str (S (textL rows)))) = false; simp) ⟨rfl, same_tr s9 S9⟩⟩
    rintro σ' H9 ⟨rfl, S9⟩
    have d9 := S9 _ _ d8
    have r9 := r8.same S9
    clear eW8 tW8 d8 r8 S9
    refine ⟨fun σ' H' => ∃ v5 : Option V, σ' = [some (.ref a), some (.ref b), some (.ref D), none, some (.ref U), v5, some (.str (S (textL rows))), some (.ref W)], ?_, ?_⟩
    · refine ⟨_, rfl, D, rfl, ⟨_, SqL.of d9⟩, ?_⟩
      refine for_it (walk_list (xs := rs.map V.ref)) (fun i σ' H' => (∃ v5 : Option V, σ' = [some (.ref a), some (.ref b), some (.ref D), none, some (.ref U), v5, some (.str (S (textL rows))), some (.ref W)]) ∧ Same H9 H') ⟨⟨_, rfl⟩, same_rfl⟩ (fun i σ' H' _ h => SqL.of (h.2 _ _ d9)) ?_ ?_
      · rintro i y σ' H10 H11 hi ⟨⟨v5, rfl⟩, S11⟩ ⟨rfl, hy⟩
        rw [List.length_map] at hi
        rw [List.getElem?_map, List.getElem?_eq_getElem hi] at hy
        cases hy
        obtain ⟨q, hq⟩ : ∃ q, rows[i]? = some q := ⟨_, List.getElem?_eq_getElem (by omega)⟩
        have qo := o3 q (List.mem_of_getElem? hq)
        have wx := S11 _ _ (r9.2 i _ q (List.getElem?_eq_getElem hi) hq)
        have one : ∀ x ∈ [q], RowOk x := fun x hx => by rw [List.mem_singleton] at hx; rw [hx]; exact qo
        refine ⟨_, rfl, rs[i], q, rfl, wx, qo, fun H12 S12 => ?_⟩
        refine ⟨[q], rfl, one, by show 1 ≤ 60; decide, fun V1 vs H13 nV S13 eV tV => ?_⟩
        refine ⟨_, rfl, by show 1 ≤ sizeLine; decide, fun L hL => ?_⟩
        have sL := same_new (o := .lst [V.ref rs[i]]) hL
        refine ⟨V1, L, vs, [rs[i]], [q], rfl, sL _ _ eV, tV.same sL, upd_same, ⟨rfl, fun j t q' e1 e2 => ?_⟩, by show 1 ≤ 60; decide, _, rfl, if_f rfl ⟨⟨_, rfl⟩, same_tr S11 (same_tr S12 (same_tr S13 sL))⟩⟩
        cases j with
        | zero => cases e1; cases e2; exact sL _ _ (S13 _ _ (S12 _ _ wx))
        | succ j => cases e1
      · rintro σ' H10 ⟨⟨v5, rfl⟩, _⟩
        exact ⟨_, rfl⟩
    rintro σ' H10 ⟨v5, rfl⟩
    have e0 : (Str.ofString "" : Str) = S (textL []) := rfl
    rw [e0]
    refine ⟨[], rfl, (fun q hq => nomatch hq), by decide, fun p ts' H11 np S11 ep tp => ⟨by show 0 ≤ sizeLine; decide, fun L hL => ?_⟩⟩
    have sL := same_new (o := .lst ([] : List V)) hL
    have ez : ts' = [] := List.length_eq_zero_iff.mp tp.1
    subst ez
    have sh : SeqAt.shaped (.list []) = true := shaped_strs (ys := []) (fun y hy => nomatch hy)
    refine ⟨.list [], .list [], .lst (SqL.of (sL _ _ ep)) .nil, .lst (SqL.of upd_same) .nil, sh, sh, ?_⟩
    rw [eqv_rfl sh]
    refine ⟨_, rfl, if_t rfl ⟨by show 0 ≤ sizeLine; decide, fun X hX => ⟨X, [], [], rfl, .inr (SqT.of upd_same), ⟨rfl, fun i t q e => nomatch e⟩, (fun q hq => nomatch hq), by decide, fun H12 S12 => ⟨rfl, ?_⟩⟩⟩⟩
    rw [decide_eq_true rfl]
    exact h3 _
end
end Law

namespace Law
open PySem PySem.Spec PyProof.Rows L2 Sup NdefX

theorem all_mk {P : Program} {w : World} {K : PySem.W.Frag} {h : Heap} {mg : Str → Option Value} {fa : Addr} (X : K.In h) (G : h.Ns mainGlobals mg) (hfa : mg "law" = some (.ref fa)) (htop : (P.main.scope.names.lookup ("super" : Str)).isSome = false)
    {fTi : Addr} {odTi anTi : Option Addr} {slTi : Array (Option Value)} {ocTi kVTi dcTi pmTi cdTi ctTi : Value}
    {fTe : Addr} {odTe anTe : Option Addr} {slTe : Array (Option Value)} {ocTe kVTe dcTe pmTe cdTe ctTe : Value}
    {fTs : Addr} {odTs anTs : Option Addr} {slTs : Array (Option Value)} {ocTs kVTs dcTs pmTs cdTs ctTs : Value}
    {fWr : Addr} {odWr anWr : Option Addr} {slWr : Array (Option Value)} {ocWr kVWr dcWr pmWr cdWr ctWr : Value}
    {fRd : Addr} {odRd anRd : Option Addr} {slRd : Array (Option Value)} {ocRd kVRd dcRd pmRd cdRd ctRd : Value}
    {fNl : Addr} {odNl anNl : Option Addr} {slNl : Array (Option Value)} {ocNl kVNl dcNl pmNl cdNl ctNl : Value}
    {fIl : Addr} {odIl anIl : Option Addr} {slIl : Array (Option Value)} {ocIl kVIl dcIl pmIl cdIl ctIl : Value}
    {fIn : Addr} {odIn anIn : Option Addr} {slIn : Array (Option Value)} {ocIn kVIn dcIn pmIn cdIn ctIn : Value}
    {fB : Addr} {odB anB : Option Addr} {slB : Array (Option Value)} {ocB kVB dcB pmB cdB ctB : Value}
    {fT : Addr} {odT anT : Option Addr} {slT : Array (Option Value)} {ocT kVT dcT pmT cdT ctT : Value}
    {fNu : Addr} {odNu anNu : Option Addr} {slNu : Array (Option Value)} {ocNu kVNu dcNu pmNu cdNu ctNu : Value}
    {fSy : Addr} {odSy anSy : Option Addr} {slSy : Array (Option Value)} {ocSy kVSy dcSy pmSy cdSy ctSy : Value}
    {fRo : Addr} {odRo anRo : Option Addr} {slRo : Array (Option Value)} {ocRo kVRo dcRo pmRo cdRo ctRo : Value}
    {fLi : Addr} {odLi anLi : Option Addr} {slLi : Array (Option Value)} {ocLi kVLi dcLi pmLi cdLi ctLi : Value}
    {fSa : Addr} {odSa anSa : Option Addr} {slSa : Array (Option Value)} {ocSa kVSa dcSa pmSa cdSa ctSa : Value}
    {fL : Addr} {odL anL : Option Addr} {slL : Array (Option Value)} {ocL kVL dcL pmL cdL ctL : Value}
    {CTrial aR : Addr} {tkD tkM tk1 tk2 : Tok} {ddR : Option Addr} {nR : Nat} {slR : Array (Option Value)}
    (aCT : PySem.W.nsIn K mainGlobals "Trial" = some (some (.ref CTrial)))
    (gD : PySem.W.nsIn K mainGlobals "DIGITS" = some (some (.str "0123456789" tkD)))
    (gM : PySem.W.nsIn K mainGlobals "MOST_DIGITS" = some (some (.int 40 tkM)))
    (gR : PySem.W.nsIn K mainGlobals "RESULTS" = some (some (.ref aR)))
    (aTi : PySem.W.findIn K (.ref CTrial) "__init__" = some (some (.ref fTi)))
    (lTi : K.lookup fTi = some ⟨ocTi, odTi, .func (PySem.W.fnOf "__init__" "Trial.__init__" (defArgs sTini) (defBody sTini) (defScope sTini) .none kVTi dcTi pmTi anTi cdTi ctTi), slTi⟩)
    (cTi : PySem.W.codeIn K cdTi "Trial.__init__" = true)
    (kTi : PySem.W.keepIn K (.ref fTi) = true)
    (iTi : PySem.W.isFn K (.ref fTi) = true)
    (aTe : PySem.W.findIn K (.ref CTrial) "__eq__" = some (some (.ref fTe)))
    (lTe : K.lookup fTe = some ⟨ocTe, odTe, .func (PySem.W.fnOf "__eq__" "Trial.__eq__" (defArgs sTeq) (defBody sTeq) (defScope sTeq) .none kVTe dcTe pmTe anTe cdTe ctTe), slTe⟩)
    (cTe : PySem.W.codeIn K cdTe "Trial.__eq__" = true)
    (kTe : PySem.W.keepIn K (.ref fTe) = true)
    (iTe : PySem.W.isFn K (.ref fTe) = true)
    (aTs : PySem.W.findIn K (.ref CTrial) "__str__" = some (some (.ref fTs)))
    (lTs : K.lookup fTs = some ⟨ocTs, odTs, .func (PySem.W.fnOf "__str__" "Trial.__str__" (defArgs sTst) (defBody sTst) (defScope sTst) .none kVTs dcTs pmTs anTs cdTs ctTs), slTs⟩)
    (cTs : PySem.W.codeIn K cdTs "Trial.__str__" = true)
    (kTs : PySem.W.keepIn K (.ref fTs) = true)
    (iTs : PySem.W.isFn K (.ref fTs) = true)
    (aWr : PySem.W.nsIn K mainGlobals "write_trials" = some (some (.ref fWr)))
    (lWr : K.lookup fWr = some ⟨ocWr, odWr, .func (PySem.W.fnOf "write_trials" "write_trials" (defArgs sWr) (defBody sWr) (defScope sWr) .none kVWr dcWr pmWr anWr cdWr ctWr), slWr⟩)
    (cWr : PySem.W.codeIn K cdWr "write_trials" = true)
    (kWr : PySem.W.keepIn K (.ref fWr) = true)
    (aRd : PySem.W.nsIn K mainGlobals "read_trials" = some (some (.ref fRd)))
    (lRd : K.lookup fRd = some ⟨ocRd, odRd, .func (PySem.W.fnOf "read_trials" "read_trials" (defArgs sRd) (defBody sRd) (defScope sRd) .none kVRd dcRd pmRd anRd cdRd ctRd), slRd⟩)
    (cRd : PySem.W.codeIn K cdRd "read_trials" = true)
    (kRd : PySem.W.keepIn K (.ref fRd) = true)
    (aNl : PySem.W.nsIn K mainGlobals "_numbered_lines" = some (some (.ref fNl)))
    (lNl : K.lookup fNl = some ⟨ocNl, odNl, .func (PySem.W.fnOf "_numbered_lines" "_numbered_lines" (defArgs sNl) (defBody sNl) (defScope sNl) .none kVNl dcNl pmNl anNl cdNl ctNl), slNl⟩)
    (cNl : PySem.W.codeIn K cdNl "_numbered_lines" = true)
    (kNl : PySem.W.keepIn K (.ref fNl) = true)
    (aIl : PySem.W.nsIn K mainGlobals "_is_trial_line" = some (some (.ref fIl)))
    (lIl : K.lookup fIl = some ⟨ocIl, odIl, .func (PySem.W.fnOf "_is_trial_line" "_is_trial_line" (defArgs sItl) (defBody sItl) (defScope sItl) .none kVIl dcIl pmIl anIl cdIl ctIl), slIl⟩)
    (cIl : PySem.W.codeIn K cdIl "_is_trial_line" = true)
    (kIl : PySem.W.keepIn K (.ref fIl) = true)
    (aIn : PySem.W.nsIn K mainGlobals "_is_number" = some (some (.ref fIn)))
    (lIn : K.lookup fIn = some ⟨ocIn, odIn, .func (PySem.W.fnOf "_is_number" "_is_number" (defArgs sIsn) (defBody sIsn) (defScope sIsn) .none kVIn dcIn pmIn anIn cdIn ctIn), slIn⟩)
    (cIn : PySem.W.codeIn K cdIn "_is_number" = true)
    (kIn : PySem.W.keepIn K (.ref fIn) = true)
    (aB : PySem.W.nsIn K mainGlobals "_law_box" = some (some (.ref fB)))
    (lB : K.lookup fB = some ⟨ocB, odB, .func (PySem.W.fnOf "_law_box" "_law_box" (defArgs sBox) (defBody sBox) (defScope sBox) .none kVB dcB pmB anB cdB ctB), slB⟩)
    (cB : PySem.W.codeIn K cdB "_law_box" = true)
    (kB : PySem.W.keepIn K (.ref fB) = true)
    (aT : PySem.W.nsIn K mainGlobals "_law_take" = some (some (.ref fT)))
    (lT : K.lookup fT = some ⟨ocT, odT, .func (PySem.W.fnOf "_law_take" "_law_take" (defArgs sTake) (defBody sTake) (defScope sTake) .none kVT dcT pmT anT cdT ctT), slT⟩)
    (cT : PySem.W.codeIn K cdT "_law_take" = true)
    (kT : PySem.W.keepIn K (.ref fT) = true)
    (aNu : PySem.W.nsIn K mainGlobals "_law_number" = some (some (.ref fNu)))
    (lNu : K.lookup fNu = some ⟨ocNu, odNu, .func (PySem.W.fnOf "_law_number" "_law_number" (defArgs sNum) (defBody sNum) (defScope sNum) .none kVNu dcNu pmNu anNu cdNu ctNu), slNu⟩)
    (cNu : PySem.W.codeIn K cdNu "_law_number" = true)
    (kNu : PySem.W.keepIn K (.ref fNu) = true)
    (aSy : PySem.W.nsIn K mainGlobals "_law_says" = some (some (.ref fSy)))
    (lSy : K.lookup fSy = some ⟨ocSy, odSy, .func (PySem.W.fnOf "_law_says" "_law_says" (defArgs sSays) (defBody sSays) (defScope sSays) .none kVSy dcSy pmSy anSy cdSy ctSy), slSy⟩)
    (cSy : PySem.W.codeIn K cdSy "_law_says" = true)
    (kSy : PySem.W.keepIn K (.ref fSy) = true)
    (aRo : PySem.W.nsIn K mainGlobals "_law_row" = some (some (.ref fRo)))
    (lRo : K.lookup fRo = some ⟨ocRo, odRo, .func (PySem.W.fnOf "_law_row" "_law_row" (defArgs sRow) (defBody sRow) (defScope sRow) .none kVRo dcRo pmRo anRo cdRo ctRo), slRo⟩)
    (cRo : PySem.W.codeIn K cdRo "_law_row" = true)
    (kRo : PySem.W.keepIn K (.ref fRo) = true)
    (aLi : PySem.W.nsIn K mainGlobals "_law_line" = some (some (.ref fLi)))
    (lLi : K.lookup fLi = some ⟨ocLi, odLi, .func (PySem.W.fnOf "_law_line" "_law_line" (defArgs sLin) (defBody sLin) (defScope sLin) .none kVLi dcLi pmLi anLi cdLi ctLi), slLi⟩)
    (cLi : PySem.W.codeIn K cdLi "_law_line" = true)
    (kLi : PySem.W.keepIn K (.ref fLi) = true)
    (aSa : PySem.W.nsIn K mainGlobals "_law_same" = some (some (.ref fSa)))
    (lSa : K.lookup fSa = some ⟨ocSa, odSa, .func (PySem.W.fnOf "_law_same" "_law_same" (defArgs sSam) (defBody sSam) (defScope sSam) .none kVSa dcSa pmSa anSa cdSa ctSa), slSa⟩)
    (cSa : PySem.W.codeIn K cdSa "_law_same" = true)
    (kSa : PySem.W.keepIn K (.ref fSa) = true)
    (aL : PySem.W.nsIn K mainGlobals "law" = some (some (.ref fL)))
    (lL : K.lookup fL = some ⟨ocL, odL, .func (PySem.W.fnOf "law" "law" (defArgs sLaw) (defBody sLaw) (defScope sLaw) .none kVL dcL pmL anL cdL ctL), slL⟩)
    (cL : PySem.W.codeIn K cdL "law" = true)
    (kL : PySem.W.keepIn K (.ref fL) = true)
    (n_len : PySem.W.nsIn K mainGlobals "len" = some none)
    (n_int : PySem.W.nsIn K mainGlobals "int" = some none)
    (n_isinstance : PySem.W.nsIn K mainGlobals "isinstance" = some none)
    (n_range : PySem.W.nsIn K mainGlobals "range" = some none)
    (n_list : PySem.W.nsIn K mainGlobals "list" = some none)
    (n_str : PySem.W.nsIn K mainGlobals "str" = some none)
    (n_bool : PySem.W.nsIn K mainGlobals "bool" = some none)
    (n_tuple : PySem.W.nsIn K mainGlobals "tuple" = some none)
    (n_enumerate : PySem.W.nsIn K mainGlobals "enumerate" = some none)
    (n_all : PySem.W.nsIn K mainGlobals "all" = some none)
    (xhn : PySem.W.specialIn K (.builtin "object.__class__") "__get__" = some (some (.builtin "getset_descriptor.__get__")))
    (xht : PySem.W.takesIn K (.builtin "object.__class__") = some true)
    (oR : K.lookup aR = some ⟨.type "tuple", ddR, .seq #[.str "reached" tk1, .str "missed" tk2] nR, slR⟩)
    (tPG : PySem.W.plainGet K CTrial Str.empty = true)
    (tHD : PySem.W.hasDictIn K CTrial = true)
    (tPO : PySem.W.plainOver K CTrial = true)
    (tSA : PySem.W.findIn K (.ref CTrial) "__setattr__" = some (some (.builtin "object.__setattr__")))
    (tMK : PySem.W.makesIn K CTrial = true)
    (tKP : PySem.W.keepIn K (.ref CTrial) = true)
    (tHA : PySem.W.findIn K (.ref CTrial) "__class__" = some (some (.builtin "object.__class__")))
    (tHM : PySem.W.mroIn K CTrial (.type "object") = some true)
    (tF0 : PySem.W.findIn K (.ref CTrial) "place" = some none)
    (tF1 : PySem.W.findIn K (.ref CTrial) "height" = some none)
    (tF2 : PySem.W.findIn K (.ref CTrial) "reached" = some none)
    (tFM : PySem.W.findIn K (.ref CTrial) "__format__" = some (some (.builtin "object.__format__"))) :
    ∃ fd : FuncData, (∀ (s : Shared) (v : Value), BindsTo s fd ⟨[v], []⟩ [("_law_script", v)]) ∧ ∀ base : Heap, K.In base → base.Ns mainGlobals mg → FnOk P w K mg base CX0 5 fa fd ["_law_script"] (spLaw K) := by
  have e := hfa.symm.trans (PySem.W.mg_of X G aL)
  cases e
  have FTi := fun_mk (st := sTini) lTi cTi kTi
  have bTi := FTi.binds (ps := ["self", "place", "height", "reached"]) fun _ _ _ _ _ _ us hl => match us, hl with | [_, _, _, _], _ => rfl
  have FTe := fun_mk (st := sTeq) lTe cTe kTe
  have bTe := FTe.binds (ps := ["self", "other"]) fun _ _ _ _ _ _ us hl => match us, hl with | [_, _], _ => rfl
  have FTs := fun_mk (st := sTst) lTs cTs kTs
  have bTs := FTs.binds (ps := ["self"]) fun _ _ _ _ _ _ us hl => match us, hl with | [_], _ => rfl
  have FWr := fun_mk (st := sWr) lWr cWr kWr
  have bWr := FWr.binds (ps := ["trials"]) fun _ _ _ _ _ _ us hl => match us, hl with | [_], _ => rfl
  have FRd := fun_mk (st := sRd) lRd cRd kRd
  have bRd := FRd.binds (ps := ["text"]) fun _ _ _ _ _ _ us hl => match us, hl with | [_], _ => rfl
  have FNl := fun_mk (st := sNl) lNl cNl kNl
  have bNl := FNl.binds (ps := ["text"]) fun _ _ _ _ _ _ us hl => match us, hl with | [_], _ => rfl
  have FIl := fun_mk (st := sItl) lIl cIl kIl
  have bIl := FIl.binds (ps := ["words"]) fun _ _ _ _ _ _ us hl => match us, hl with | [_], _ => rfl
  have FIn := fun_mk (st := sIsn) lIn cIn kIn
  have bIn := FIn.binds (ps := ["word"]) fun _ _ _ _ _ _ us hl => match us, hl with | [_], _ => rfl
  have FB := fun_mk (st := sBox) lB cB kB
  have bB := FB.binds (ps := ["_law_script"]) fun _ _ _ _ _ _ us hl => match us, hl with | [_], _ => rfl
  have FT := fun_mk (st := sTake) lT cT kT
  have bT := FT.binds (ps := ["_law_box_here", "_law_size"]) fun _ _ _ _ _ _ us hl => match us, hl with | [_, _], _ => rfl
  have FNu := fun_mk (st := sNum) lNu cNu kNu
  have bNu := FNu.binds (ps := ["_law_x"]) fun _ _ _ _ _ _ us hl => match us, hl with | [_], _ => rfl
  have FSy := fun_mk (st := sSays) lSy cSy kSy
  have bSy := FSy.binds (ps := ["_law_told", "_law_due"]) fun _ _ _ _ _ _ us hl => match us, hl with | [_, _], _ => rfl
  have FRo := fun_mk (st := sRow) lRo cRo kRo
  have bRo := FRo.binds (ps := ["_law_box_here"]) fun _ _ _ _ _ _ us hl => match us, hl with | [_], _ => rfl
  have FLi := fun_mk (st := sLin) lLi cLi kLi
  have bLi := FLi.binds (ps := ["_law_row_here"]) fun _ _ _ _ _ _ us hl => match us, hl with | [_], _ => rfl
  have FSa := fun_mk (st := sSam) lSa cSa kSa
  have bSa := FSa.binds (ps := ["_law_trials", "_law_rows"]) fun _ _ _ _ _ _ us hl => match us, hl with | [_, _], _ => rfl
  have FL := fun_mk (st := sLaw) lL cL kL
  have bL := FL.binds (ps := ["_law_script"]) fun _ _ _ _ _ _ us hl => match us, hl with | [_], _ => rfl
  exact ⟨PySem.W.fnOf "law" "law" (defArgs sLaw) (defBody sLaw) (defScope sLaw) .none kVL dcL pmL anL cdL ctL, fun s v => .of_eq rfl, fun base _ _ => by
    have clT : Cls K CTrial := ⟨tPG, tHD, tPO, tSA⟩
    have bt : BoxTxt K mg := ⟨PySem.W.mg_none_of X G n_len, PySem.W.mg_none_of X G n_int⟩
    have TT : TriTxt K mg CTrial := { tri := PySem.W.mg_of X G aCT, isi := PySem.W.mg_none_of X G n_isinstance, b_len := PySem.W.mg_none_of X G n_len, cl := clT, nP := tF0, nH := tF1, nR := tF2, ha := tHA, hn := xhn, ht := xht, hm := tHM }
    have TE : TeTxt K mg CTrial := { isi := PySem.W.mg_none_of X G n_isinstance, ha := tHA, hn := xhn, ht := xht, hm := tHM }
    have MKT : Mk K CTrial fTi := ⟨tMK, aTi, iTi, tKP⟩
    have GTi := Own.fnr0 (ok_tini (P := P) (w := w) (base := base) FTi TT) bTi
    have GTs := Own.fnr0 (ok_tst (P := P) (w := w) (base := base) FTs TT) bTs
    have GTe : FnOk P w K mg base CX0 1 fTe _ ["self", "other"] (spEq (RTri CTrial)) := ok_teqR FTe TT TE
    have hR : ∀ H : Hp, SqT K H aR [.str "reached", .str "missed"] := fun H => .inr ⟨_, #[.str "reached" tk1, .str "missed" tk2], nR, oR, rfl, rfl, by show 2 ≤ sizeLine; decide, .cons ⟨_, rfl⟩ (.cons ⟨_, rfl⟩ .nil)⟩
    have GB : FnOk P w K mg base CX0 1 fB _ ["_law_script"] (spBox K) := ok_box FB bt
    have GT : FnOk P w K mg base CX0 1 fT _ ["_law_box_here", "_law_size"] spTake := ok_take FT bt
    have GIn : FnOk P w K mg base CX0 1 fIn _ ["word"] spIsn := ok_isn FIn { digits := ⟨_, PySem.W.mg_of X G gD⟩, most := ⟨_, PySem.W.mg_of X G gM⟩, b_len := PySem.W.mg_none_of X G n_len, b_all := PySem.W.mg_none_of X G n_all }
    have GIl : FnOk P w K mg base CX0 2 fIl _ ["words"] spItl := ok_itl FIl GIn FIn bIn { num := PySem.W.mg_of X G aIn, res := PySem.W.mg_of X G gR, b_len := PySem.W.mg_none_of X G n_len } hR
    have GNl : FnOk P w K mg base CX0 1 fNl _ ["text"] spNl := ok_nl FNl { b_enum := PySem.W.mg_none_of X G n_enumerate }
    have GRd : FnOk P w K mg base CX0 3 fRd _ ["text"] (spRd CTrial) := ok_rd FRd GNl FNl bNl GIl FIl bIl MKT GTi { nl := PySem.W.mg_of X G aNl, itl := PySem.W.mg_of X G aIl, tri := PySem.W.mg_of X G aCT, b_int := PySem.W.mg_none_of X G n_int }
    have GWr : FnOk P w K mg base CX0 3 fWr _ ["trials"] (spWr K CTrial) := ok_wr FWr GTs { fm := tFM, mo := tHM, hs := aTs, hf := iTs }
    have GNu : FnOk P w K mg base CX0 1 fNu _ ["_law_x"] spNum := ok_num FNu { isi := PySem.W.mg_none_of X G n_isinstance, int := PySem.W.mg_none_of X G n_int, bool := PySem.W.mg_none_of X G n_bool }
    have GSy : FnOk P w K mg base CX0 1 fSy _ ["_law_told", "_law_due"] spSays := ok_says FSy
    have GRo : FnOk P w K mg base CX0 2 fRo _ ["_law_box_here"] spRow := ok_row FRo GT FT bT { take := PySem.W.mg_of X G aT, b_range := PySem.W.mg_none_of X G n_range }
    have GLi : FnOk P w K mg base CX0 1 fLi _ ["_law_row_here"] spLin := ok_lin FLi { b_str := PySem.W.mg_none_of X G n_str, b_int := PySem.W.mg_none_of X G n_int }
    have GSa : FnOk P w K mg base CX0 2 fSa _ ["_law_trials", "_law_rows"] (spSam CTrial) := ok_sam FSa GNu FNu bNu GSy FSy bSy TT { num := PySem.W.mg_of X G aNu, says := PySem.W.mg_of X G aSy, b_len := PySem.W.mg_none_of X G n_len, b_range := PySem.W.mg_none_of X G n_range, b_isinstance := PySem.W.mg_none_of X G n_isinstance, b_list := PySem.W.mg_none_of X G n_list }
    exact ok_law FL { box := PySem.W.mg_of X G aB, take := PySem.W.mg_of X G aT, row := PySem.W.mg_of X G aRo, line := PySem.W.mg_of X G aLi, same := PySem.W.mg_of X G aSa, wr := PySem.W.mg_of X G aWr, rd := PySem.W.mg_of X G aRd, tri := PySem.W.mg_of X G aCT, b_len := PySem.W.mg_none_of X G n_len, b_range := PySem.W.mg_none_of X G n_range, b_isinstance := PySem.W.mg_none_of X G n_isinstance, b_str := PySem.W.mg_none_of X G n_str, b_tuple := PySem.W.mg_none_of X G n_tuple }
      GB FB bB GT FT bT GRo FRo bRo GLi FLi bLi GSa FSa bSa GWr FWr bWr GRd FRd bRd MKT GTi GTe aTe iTe bTe⟩
theorem walk {l : PySem.W.OpenLaw} {q : Program} {loose : List Str} {XP : (Str → Option Value) → Heap → Prop} {YP : World → Heap → Prop} {d : DefRec} {K : Params → PySem.W.Frag} (hn : l.most = some 63) (hdf : d.params.defaults = [])
    (hY : ∀ (w : World) (h : Heap), YP w h → (K w.params).In h)
    (F : ∀ (w : World) (mg : Str → Option Value) (fa : Addr) (h : Heap), (K w.params).In h → h.Ns mainGlobals mg → mg d.name = some (.ref fa) →
      ∃ fd : FuncData, (∀ (s : Shared) (u : Value), BindsTo s fd ⟨[u], []⟩ [("_law_script", u)]) ∧ ∀ base : Heap, (K w.params).In base → base.Ns mainGlobals mg → FnOk l.prog w (K w.params) mg base CX0 5 fa fd ["_law_script"] (spLaw (K w.params))) :
    PySem.W.WalkO q loose XP YP l.row.toRowW d [] (fun f vs => PySem.call f vs) :=
  L2.walk_of (n := 63) (k := 5) (x := "_law_script") (CX := fun _ => CX0) (sp := fun w => spLaw (K w.params)) hn (by decide) hdf ⟨rfl, by decide, by decide⟩ hY F (fun _ _ a ns hl _ hS => ⟨a, ns, rfl, hS, hl, fun _ => rfl⟩) fun _ _ _ _ _ z => z
end Law

open PySem PySem.W PyProof.Rows
set_option maxRecDepth 100000 in
set_option maxHeartbeats 0 in
theorem PySem.Challenge.cw_rungbounds_k59_whole_trials_written_and_holds : PySem.Challenge.rw_rungbounds_k59_whole_trials_written_and.Holds := by
  w_on; o_law; k_head; (case hw => w_witness2)
  k_fill
  refine Law.walk (l := PySem.Challenge.rw_rungbounds_k59_whole_trials_written_and) rfl rfl (fun w h Y => PySem.W.kIn_of Y) ?F
  case F =>
    intro w mg fa h KX G hmg
    refine' Law.all_mk KX G hmg (by rfl) ?aCT ?gD ?gM ?gR ?aTi ?lTi ?cTi ?kTi ?iTi ?aTe ?lTe ?cTe ?kTe ?iTe ?aTs ?lTs ?cTs ?kTs ?iTs ?aWr ?lWr ?cWr ?kWr ?aRd ?lRd ?cRd ?kRd ?aNl ?lNl ?cNl ?kNl ?aIl ?lIl ?cIl ?kIl ?aIn ?lIn ?cIn ?kIn ?aB ?lB ?cB ?kB ?aT ?lT ?cT ?kT ?aNu ?lNu ?cNu ?kNu ?aSy ?lSy ?cSy ?kSy ?aRo ?lRo ?cRo ?kRo ?aLi ?lLi ?cLi ?kLi ?aSa ?lSa ?cSa ?kSa ?aL ?lL ?cL ?kL ?n_len ?n_int ?n_isinstance ?n_range ?n_list ?n_str ?n_bool ?n_tuple ?n_enumerate ?n_all ?xhn ?xht ?oR ?tPG ?tHD ?tPO ?tSA ?tMK ?tKP ?tHA ?tHM ?tF0 ?tF1 ?tF2 ?tFM
    (case aCT => k_is)
    (case gD => k_is)
    (case gM => k_is)
    (case gR => k_is)
    (case aTi => k_is)
    (case lTi => k_is)
    (case cTi => k_is)
    (case kTi => k_is)
    (case iTi => k_is)
    (case aTe => k_is)
    (case lTe => k_is)
    (case cTe => k_is)
    (case kTe => k_is)
    (case iTe => k_is)
    (case aTs => k_is)
    (case lTs => k_is)
    (case cTs => k_is)
    (case kTs => k_is)
    (case iTs => k_is)
    (case aWr => k_is)
    (case lWr => k_is)
    (case cWr => k_is)
    (case kWr => k_is)
    (case aRd => k_is)
    (case lRd => k_is)
    (case cRd => k_is)
    (case kRd => k_is)
    (case aNl => k_is)
    (case lNl => k_is)
    (case cNl => k_is)
    (case kNl => k_is)
    (case aIl => k_is)
    (case lIl => k_is)
    (case cIl => k_is)
    (case kIl => k_is)
    (case aIn => k_is)
    (case lIn => k_is)
    (case cIn => k_is)
    (case kIn => k_is)
    (case aB => k_is)
    (case lB => k_is)
    (case cB => k_is)
    (case kB => k_is)
    (case aT => k_is)
    (case lT => k_is)
    (case cT => k_is)
    (case kT => k_is)
    (case aNu => k_is)
    (case lNu => k_is)
    (case cNu => k_is)
    (case kNu => k_is)
    (case aSy => k_is)
    (case lSy => k_is)
    (case cSy => k_is)
    (case kSy => k_is)
    (case aRo => k_is)
    (case lRo => k_is)
    (case cRo => k_is)
    (case kRo => k_is)
    (case aLi => k_is)
    (case lLi => k_is)
    (case cLi => k_is)
    (case kLi => k_is)
    (case aSa => k_is)
    (case lSa => k_is)
    (case cSa => k_is)
    (case kSa => k_is)
    (case aL => k_is)
    (case lL => k_is)
    (case cL => k_is)
    (case kL => k_is)
    (case n_len => k_is)
    (case n_int => k_is)
    (case n_isinstance => k_is)
    (case n_range => k_is)
    (case n_list => k_is)
    (case n_str => k_is)
    (case n_bool => k_is)
    (case n_tuple => k_is)
    (case n_enumerate => k_is)
    (case n_all => k_is)
    (case xhn => first | k_is | rfl)
    (case xht => first | k_is | rfl)
    (case oR => k_is)
    (case tPG => first | k_is | rfl | kernel_rfl)
    (case tHD => first | k_is | rfl | kernel_rfl)
    (case tPO => first | k_is | rfl | kernel_rfl)
    (case tSA => k_is)
    (case tMK => first | k_is | rfl | kernel_rfl)
    (case tKP => k_is)
    (case tHA => k_is)
    (case tHM => k_is)
    (case tF0 => k_is)
    (case tF1 => k_is)
    (case tF2 => k_is)
    (case tFM => k_is)
